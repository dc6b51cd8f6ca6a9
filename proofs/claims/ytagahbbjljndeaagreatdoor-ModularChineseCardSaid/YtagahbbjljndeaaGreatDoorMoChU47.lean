import Derived.Test.YtagahbbjljndeaaGreatDoorMoChU45
import Derived.Test.YtagahbbjljndeaaGreatDoorMoChU46
namespace Go.Proofs.YtagahbbjljndeaaGreatDoor
open Go Go.RowKit

theorem getD_left (l k : List Int) {j : Nat} (h : j < l.length) : (l ++ k).getD j 0 = l.getD j 0 := by simp [List.getD, List.getElem?_append_left h]
theorem getD_last (l : List Int) (d : Int) {j : Nat} (h : j = l.length) : (l ++ [d]).getD j 0 = d := by subst h; simp [List.getD]
theorem five_mem {i : Nat} (h : i < 5) : fiveP.getD i 0 ∈ fiveP := by
  match i, h with
  | 0, _ => decide
  | 1, _ => decide
  | 2, _ => decide
  | 3, _ => decide
  | 4, _ => decide
theorem five_cells {w : World} {g : Nat} (h : VBlk w g #[.int .i64 3, .int .i64 101, .int .i64 65537, .int .i64 1000003, .int .i64 2147483647] 3) {i : Nat} (hi : i < 5) : w.cell? ⟨g, i, none⟩ = some (.int .i64 (fiveP.getD i 0)) := by
  rw [h.c i]
  match i, hi with
  | 0, _ => rfl
  | 1, _ => rfl
  | 2, _ => rfl
  | 3, _ => rfl
  | 4, _ => rfl
theorem five_ns {w : World} {g : Nat} (h : VBlk w g #[.int .i64 3, .int .i64 101, .int .i64 65537, .int .i64 1000003, .int .i64 2147483647] 3) : Ns w (some ⟨g, 0, none⟩) 5 5 fiveP :=
  ⟨rfl, Nat.le_refl _, fun _ => ⟨g, 0, rfl, fun j hj => by rw [Nat.zero_add]; exact five_cells h hj⟩⟩
theorem five_mod : modE fiveP = 0 := by
  unfold modE
  rw [if_pos (List.all_eq_true.2 five_mr), show dupB [] fiveP = false by decide]; rfl
theorem mulj {p : Int} {j : Nat} (h0 : 0 < p) (h1 : p ≤ 2147483647) (hj : j < 3) : 0 ≤ p * (j : Int) ∧ p * (j : Int) ≤ 2147483647 * 2 :=
  ⟨Int.mul_nonneg (by omega) (by omega), Int.mul_le_mul h1 (by omega) (by omega) (by omega)⟩
theorem five_of {X : Int} {LL : List Int} (hl : LL.length = 5) (ha : X.natAbs < 18446744073709551616) (hd : ∀ j, j < 5 → fiveP.getD j 0 ∣ X - LL.getD j 0) : crtC (crtFin LL fiveP) (crtN fiveP) = X := by
  match LL, hl with
  | [r0, r1, r2, r3, r4], _ =>
    rw [five_prod]
    exact five_back X r0 r1 r2 r3 r4 ha (hd 0 (by omega)) (hd 1 (by omega)) (hd 2 (by omega)) (hd 3 (by omega)) (hd 4 (by omega))

set_option maxRecDepth 100000 in
set_option maxHeartbeats 8000000 in
theorem mchinese_any (pn : Bool) (po lo : Option Addr) (pk pc ln lc : Nat) (l : List Int) (w : World) (hraw : pk ≤ 1099511627776 → ∃ zs, Sl w po pk pc zs) (hl : Ns w lo ln lc l) (hT : Table64 w) (hP : Pow10 w) :
    Calls Tryz.prog 5 #[.agg #[.bool pn, .slice po pk pc], .slice lo ln lc] w fun e w' => e = .returned (.bool true) ∧ Ext w w' := by
  go_enter Tryz.func5, Tryz.ntmps5
  go_wp2_with fail
  obtain ⟨W, hW⟩ : ∃ W, (w.alloc (.cells #[.bool pn, .slice po pk pc] 24)).alloc (.cells #[.int .i64 3, .int .i64 101, .int .i64 65537, .int .i64 1000003, .int .i64 2147483647] 3) = W := ⟨_, rfl⟩
  have hB : Ext w W := by rw [← hW]; exact ((Below.refl _ w).alloc (Nat.le_refl _) _).alloc (by simp) _
  have hx : Box W w.heap.size pn po pk pc := by rw [← hW]; exact (Box.new w pn po pk pc).below ((Below.refl _ _).alloc (Nat.le_refl _) _)
  have hv : VBlk W (w.heap.size + 1) #[.int .i64 3, .int .i64 101, .int .i64 65537, .int .i64 1000003, .int .i64 2147483647] 3 := by
    rw [← hW]
    have := VBlk.new (w.alloc (.cells #[.bool pn, .slice po pk pc] 24)) #[.int .i64 3, .int .i64 101, .int .i64 65537, .int .i64 1000003, .int .i64 2147483647] 3
    simpa using this
  rw [hW]
  have HE := Lib.hid hB
  have HT := Lib.hid (show Table64 W from hT.below hB)
  have HAW := Lib.hid (show ∀ wx, Ext W wx → Calls Tryz.prog 8 #[] wx fun e w' => e = .returned (.bool true) ∧ Ext wx w' from fun wx h => mawake_any wx ((hT.below hB).below h) ((hP.below hB).below h))
  have HZ := Lib.hid (show pk ≤ 1099511627776 → ∃ zs, Sl W po pk pc zs from fun h => (hraw h).elim fun zs hz => ⟨zs, hz.below hB⟩)
  have HLS := Lib.hid (hl.below hB)
  generalize w.heap.size = B at *
  clear hraw hT hP hB hl hW
  have x0 := hx.c0
  have x1 := hx.c1
  by_cases h2 : pk ≤ 2
  · refine (slim_yes pn po pk pc 2 W h2).mono ?_
    rintro e w1 ⟨rfl, h1⟩
    obtain ⟨zs, hzs⟩ := HZ.out (by omega)
    obtain ⟨X, hX⟩ : ∃ X, sgd pn zs = X := ⟨_, rfl⟩
    have hBg : Bg W pn po pk pc X := ⟨⟨zs, hzs, hX.symm⟩, by omega⟩
    have HBg := Lib.hid hBg
    have EX := bg_ent hBg 2 h2 (by omega)
    have HXA := Lib.hid (show X.natAbs < 18446744073709551616 by obtain ⟨_, _, _, _, _, _, _, a1, _⟩ := EX; exact a1)
    have HEX := Lib.hid EX
    have HX := Lib.hid hx
    have HV := Lib.hid hv
    have HE1 := Lib.hid h1
    obtain ⟨C, hC⟩ : ∃ C, W.heap.size = C := ⟨_, rfl⟩
    have HC := Lib.hid hC
    have HPK := Lib.hid h2
    clear x0 x1 h1 hzs hX hBg EX HZ hx hv hC h2
    go_wp2
    go_loopw [6, 7] (fun rv iv wr => ∃ (i : Nat) (LL : List Int), i ≤ 5 ∧ iv = .int .i64 (i : Int) ∧ OZ wr C rv LL ∧ LL.length = i ∧ Hid (∀ j, j < i → fiveP.getD j 0 ∣ X - LL.getD j 0) ∧ Ext W wr)
      (fun _ iv _ => 5 - (intOf iv).toNat)
    case atStart => exact ⟨0, [], by omega, rfl, OZ.nil _ _, rfl, Lib.hid (fun j h => absurd h (Nat.not_lt_zero _)), HE1.out⟩
    case round =>
      obtain ⟨i, LL, hi, rfl, hown, hLL, HD, hEx⟩ := hrel
      have HLL := Lib.hid hLL
      have HEx := Lib.hid hEx
      by_cases hlt : i < 5
      · have hxw := HX.out.below hEx
        have x0 := hxw.c0
        have x1 := hxw.c1
        have k5 := five_cells (HV.out.below hEx) hlt
        have hpm := five_mem hlt
        obtain ⟨p, hp⟩ : ∃ p, fiveP.getD i 0 = p := ⟨_, rfl⟩
        rw [hp] at k5 hpm
        have hpr := five_mr p hpm
        obtain ⟨p2, p3⟩ := mr_bounds hpr
        have HP := Lib.hid (show fiveP.getD i 0 = p ∧ 2 ≤ p ∧ p ≤ 2147483647 from ⟨hp, p2, p3⟩)
        have CRD := Lib.hid (fun wx (h : Ext W wx) => reduce_yes pn po pk pc X p wx (HBg.out.below h) (by have := HPK.out; omega) (HT.out.below h) hpr)
        obtain ⟨z, hz⟩ : ∃ z, X % p = z := ⟨_, rfl⟩
        have HZ2 := Lib.hid (show p ∣ X - z ∧ 0 ≤ z ∧ z < p by
          rw [← hz]
          exact ⟨Int.dvd_self_sub_emod, Int.emod_nonneg _ (by omega), Int.emod_lt_of_pos _ (by omega)⟩)
        rw [hz] at CRD
        have HCE := Lib.hid (show ∀ wx, Ext W wx → (wx.cell? ⟨B, 0, none⟩ = some (.bool pn) ∧ wx.cell? ⟨B, 1, none⟩ = some (.slice po pk pc)) ∧ wx.cell? ⟨B + 1, i, none⟩ = some (.int .i64 p) from fun wx h => ⟨⟨(HX.out.below h).c0, (HX.out.below h).c1⟩, by rw [← hp]; exact five_cells (HV.out.below h) hlt⟩)
        have stn : St W wr [] := ⟨hEx, fun p hp => by cases hp⟩
        have std := stn.drew
        have HOW := Lib.hid hown
        have hi5 : (i : Int) < 5 := by omega
        clear hp hpm hpr hz hxw hLL hEx hown
        go_upto_region 8 with fail
        first | (go_region_held3 (fun wx => (wx.cell? ⟨B, 0, none⟩ = some (.bool pn) ∧ wx.cell? ⟨B, 1, none⟩ = some (.slice po pk pc)) ∧ wx.cell? ⟨B + 1, i, none⟩ = some (.int .i64 p))
          (first | exact HCE.out _ (by exact St.ext (by with_reducible assumption)))
          (first | (go_at_call 9; refine (CRD.out _ (by exact St.ext (by assumption))).mono ?_; rintro e wn ⟨rfl, hwn⟩; have stm := St.step (W := W) (by with_reducible assumption) hwn))) | fail "r8"
        obtain ⟨V, hV⟩ : ∃ V, V = wn := ⟨wn, rfl⟩
        subst hV
        have HE3 := Lib.hid stm.ext
        have HOWN := Lib.hid (show OZ V C _ LL from HOW.out.below (by exact Ext.trans (Below.refl _ _).drew hwn))
        obtain ⟨⟨y0, y1⟩, y2⟩ := HCE.out _ stm.ext
        clear x0 x1 k5 CRD stn std hwn HOW HEx
        by_cases hil : i < ln
        · obtain ⟨b1, f1, rfl, hc1⟩ := (HLS.out.below HE3.out).cells (by omega)
          have k6 := hc1 i hil
          obtain ⟨y, hy⟩ : ∃ y, l.getD i 0 = y := ⟨_, rfl⟩
          rw [hy] at k6
          have hil2 : (i : Int) < (ln : Int) := by omega
          have HCF := Lib.hid (show ∀ wx, Ext V wx → wx.cell? ⟨B + 1, i, none⟩ = some (.int .i64 p) ∧ wx.cell? ⟨b1, f1 + i, none⟩ = some (.int .i64 y) from fun wx h => ⟨(h.cell (lt_of_cell y2)).trans y2, (h.cell (lt_of_cell k6)).trans k6⟩)
          have stn : St V V [] := ⟨Ext.refl _, fun p hp => by cases hp⟩
          have std := stn.drew
          clear hc1 hy y0 y1
          go_upto_region 12 with fail
          first | (go_region_held3 (fun wx => wx.cell? ⟨B + 1, i, none⟩ = some (.int .i64 p) ∧ wx.cell? ⟨b1, f1 + i, none⟩ = some (.int .i64 y))
            (first | exact HCF.out _ (by exact St.ext (by with_reducible assumption)))
            (first | (go_at_call 21; refine (place_any y 3 _ (by omega) (by omega)).mono ?_; rintro e wq ⟨j, hj, rfl, rfl⟩; obtain ⟨m, hm⟩ : ∃ m, p * (j : Int) = m := ⟨_, rfl⟩; have hmj := mulj (p := p) (j := j) (by have := HP.out; omega) (by have := HP.out; omega) hj; rw [hm] at hmj; have e1 := IntWalk.i64_in m (by omega); obtain ⟨d, hd⟩ : ∃ d, z - m = d := ⟨_, rfl⟩; have e2 := IntWalk.i64_in d (by have := HZ2.out; have := HP.out; omega)))) | fail "r12"
          have HDD := Lib.hid (show p ∣ X - d from by
            rw [← hd, ← hm, show X - (z - p * (j : Int)) = (X - z) + p * (j : Int) by omega]
            exact Int.dvd_add HZ2.out.1 (Int.dvd_mul_right _ _))
          have HE3 := Lib.hid (show Ext W V.drew from HE3.out.trans (Below.refl _ _).drew)
          have HOWN := Lib.hid (show OZ V.drew C _ LL from HOWN.out.below (Below.refl _ _).drew)
          clear e1 e2 hd hm hmj stn std y2 k6 hil hil2 HCF
          generalize V.drew = V at *
          have hC9 : C ≤ V.heap.size := by have := Below.size HE3.out; have := HC.out; omega
          have hL9 : LL.length ≤ 1000000 := by have := HLL.out; omega
          have HDV := Lib.hid (show ∀ j, j < i + 1 → fiveP.getD j 0 ∣ X - (LL ++ [d]).getD j 0 from fun j hj => by
            rcases Nat.lt_or_ge j i with h | h
            · rw [getD_left _ _ (by rw [HLL.out]; exact h)]; exact HD.out j h
            · obtain rfl : j = i := by omega
              rw [getD_last _ _ HLL.out.symm, HP.out.1]
              exact HDD.out)
          clear HD
          go_wp2_with (first | (at_builtin; refine wpList_append_z V rfl (.tmp 50) (.tmp 52) rfl C _ LL d rfl rfl HOWN.out hC9 hL9 ?_; intro v' w9 hown9 hB9) | go_in)
          have HE9 := Lib.hid (show Ext W w9 from Below.trans HE3.out (by have h := hB9; have := HC.out; exact ⟨h.os, h.tape, h.output, h.size, fun k hk => h.block k (by omega)⟩))
          go_wp2
          go_roundw
          case rel => exact ⟨i + 1, LL ++ [d], by omega, by go_num, hown9, by rw [List.length_append, HLL.out]; rfl, HDV, HE9.out⟩
          case measure => simp [intOf]; omega
        · have hil2 : ¬ (i : Int) < (ln : Int) := by omega
          clear y0 y1 y2
          have hC9 : C ≤ V.heap.size := by have := Below.size HE3.out; have := HC.out; omega
          have hL9 : LL.length ≤ 1000000 := by have := HLL.out; omega
          have HDV := Lib.hid (show ∀ j, j < i + 1 → fiveP.getD j 0 ∣ X - (LL ++ [z]).getD j 0 from fun j hj => by
            rcases Nat.lt_or_ge j i with h | h
            · rw [getD_left _ _ (by rw [HLL.out]; exact h)]; exact HD.out j h
            · obtain rfl : j = i := by omega
              rw [getD_last _ _ HLL.out.symm, HP.out.1]
              exact HZ2.out.1)
          clear HD
          go_wp2_with (first | (at_builtin; refine wpList_append_z V rfl (.tmp 50) (.tmp 52) rfl C _ LL z rfl rfl HOWN.out hC9 hL9 ?_; intro v' w9 hown9 hB9) | go_in)
          have HE9 := Lib.hid (show Ext W w9 from Below.trans HE3.out (by have h := hB9; have := HC.out; exact ⟨h.os, h.tape, h.output, h.size, fun k hk => h.block k (by omega)⟩))
          go_wp2
          go_roundw
          case rel => exact ⟨i + 1, LL ++ [z], by omega, by go_num, hown9, by rw [List.length_append, HLL.out]; rfl, HDV, HE9.out⟩
          case measure => simp [intOf]; omega
      · obtain rfl : i = 5 := by omega
        obtain ⟨ao, cap, rfl, hns⟩ := hown.ns (by intro h0; rw [h0] at hLL; cases hLL)
        rw [hLL] at hns
        have hFX := five_of hLL HXA.out HD.out
        have CC := Lib.hid (fun wx (h : Ext wr wx) => combine_yes ao (some ⟨B + 1, 0, none⟩) 5 cap 5 LL fiveP wx (hns.below h) (five_ns (HV.out.below (hEx.trans h))) (by omega) (by intro p hp; have := mr_bounds (five_mr p hp); omega) (HT.out.below (hEx.trans h)) five_mod)
        rw [hFX, five_prod] at CC
        have hlt5 : ¬ (5 : Int) < 5 := by omega
        clear hns hFX HD hown hlt hi
        simp only [hLL]
        go_wp2_with fail
        refine (CC.out _ (Ext.refl _)).mono ?_
        rintro r w3 ⟨an, aa, ak, ac, bn, ba, bk, bc, rfl, hA, hN, hE3⟩
        have HE3 := Lib.hid (HEx.out.trans hE3)
        clear CC hE3 hLL
        go_upto_region 15 with fail
        obtain ⟨V4, hV4, hE4, hx4, hy4⟩ := box_pair w3 an aa ak ac bn ba bk bc
        rw [← hV4]
        have hA4 := hA.below hE4
        have hN4 := hN.below hE4
        have hE4' : Ext W V4 := HE3.out.trans hE4
        have EA := bn_ent hA4 (k := 2) (by have := HXA.out; omega) (by omega)
        have EN := bn_ent hN4 (k := 6) (by decide +kernel) (by omega)
        have EX := HEX.out.ext hE4'
        have stn : St V4 V4 [⟨.agg #[.bool an, .slice aa ak ac], X, 2, true⟩, ⟨.agg #[.bool bn, .slice ba bk bc], fiveM, 6, true⟩, ⟨.agg #[.bool pn, .slice po pk pc], X, 2, false⟩] := ⟨Ext.refl _, fun p hp => by
          simp only [List.mem_cons, List.not_mem_nil, or_false] at hp
          rcases hp with rfl | rfl | rfl
          · exact EA
          · exact EN
          · exact EX⟩
        have HE4 := Lib.hid hE4'
        generalize w3.heap.size = D at *
        have HCC := Lib.hid (show ∀ wx, Ext V4 wx → ((wx.cell? ⟨D, 0, none⟩ = some (.bool an) ∧ wx.cell? ⟨D, 1, none⟩ = some (.slice aa ak ac)) ∧ (wx.cell? ⟨D + 1, 0, none⟩ = some (.bool bn) ∧ wx.cell? ⟨D + 1, 1, none⟩ = some (.slice ba bk bc))) ∧ (wx.cell? ⟨B, 0, none⟩ = some (.bool pn) ∧ wx.cell? ⟨B, 1, none⟩ = some (.slice po pk pc)) from fun wx h =>
          ⟨⟨⟨(hx4.below h).c0, (hx4.below h).c1⟩, ⟨(hy4.below h).c0, (hy4.below h).c1⟩⟩, ⟨(HX.out.below (hE4'.trans h)).c0, (HX.out.below (hE4'.trans h)).c1⟩⟩)
        clear hA hN hA4 hN4 hx4 hy4 hE4 hE4' EA EN EX hV4 hEx
        obtain ⟨⟨⟨a0, a1⟩, b0, b1⟩, p0, p1⟩ := HCC.out V4 (Ext.refl _)
        have std := stn.drew
        first | (go_region_held3 (fun wx => ((wx.cell? ⟨D, 0, none⟩ = some (.bool an) ∧ wx.cell? ⟨D, 1, none⟩ = some (.slice aa ak ac)) ∧ (wx.cell? ⟨D + 1, 0, none⟩ = some (.bool bn) ∧ wx.cell? ⟨D + 1, 1, none⟩ = some (.slice ba bk bc))) ∧ (wx.cell? ⟨B, 0, none⟩ = some (.bool pn) ∧ wx.cell? ⟨B, 1, none⟩ = some (.slice po pk pc)))
          (first | exact HCC.out _ (by exact St.ext (by with_reducible assumption)))
          (first
            | (go_at_call 22; refine (norm_bag (W := V4) (by with_reducible assumption) (by repeat (first | exact List.Mem.head _ | refine List.Mem.tail _ ?_)) (by omega)).mono ?_; rintro e wn ⟨r1, rfl, stn⟩)
            | (go_at_call 19; refine (big_bag (W := V4) (by with_reducible assumption) (by repeat (first | exact List.Mem.head _ | refine List.Mem.tail _ ?_)) (by repeat (first | exact List.Mem.head _ | refine List.Mem.tail _ ?_)) rfl).mono ?_; rintro e wm ⟨rfl, stm⟩)
            )) | fail "r15"
        clear std stn a0 a1 b0 b1 p0 p1
        go_wp2_with fail
        refine (fromInt_bag stm 19857711 (by omega)).mono ?_
        rintro e q1 ⟨c1, rfl, s1⟩
        go_wp2_with fail
        refine (fromInt_bag s1 1000003 (by omega)).mono ?_
        rintro e q2 ⟨c2, rfl, s2⟩
        go_wp2_with fail
        refine (mul_bag s2 (by repeat (first | exact List.Mem.head _ | refine List.Mem.tail _ ?_)) (by repeat (first | exact List.Mem.head _ | refine List.Mem.tail _ ?_)) (by omega) (by omega) (by omega)).mono ?_
        rintro e q3 ⟨c3, rfl, s3⟩
        go_wp2_with fail
        refine (fromInt_bag s3 2147483647 (by omega)).mono ?_
        rintro e q4 ⟨c4, rfl, s4⟩
        go_wp2_with fail
        refine (mul_bag s4 (by repeat (first | exact List.Mem.head _ | refine List.Mem.tail _ ?_)) (by repeat (first | exact List.Mem.head _ | refine List.Mem.tail _ ?_)) (by omega) (by omega) (by omega)).mono ?_
        rintro e q5 ⟨c5, rfl, s5⟩
        obtain ⟨cn, co, ck, cc, rfl, _⟩ := s5.bag _ (List.Mem.head _)
        clear stm s1 s2 s3 s4
        go_upto_region 18 with fail
        obtain ⟨V6, hV6, hE6, hx6, _⟩ := box_new q5 cn co ck cc
        rw [← hV6]
        have s6 := s5.step hE6
        obtain ⟨⟨⟨a0, a1⟩, b0, b1⟩, p0, p1⟩ := HCC.out V6 s6.ext
        generalize q5.heap.size = G at *
        have g0 := hx6.c0
        have g1 := hx6.c1
        clear hE6 hV6 s5 hx6 a0 a1 p0 p1
        go_wp2_with fail
        refine (big_bag s6 (by repeat (first | exact List.Mem.head _ | refine List.Mem.tail _ ?_)) (by repeat (first | exact List.Mem.head _ | refine List.Mem.tail _ ?_)) (show fiveM = 19857711 * 1000003 * 2147483647 from rfl)).mono ?_
        rintro e q7 ⟨rfl, s7⟩
        have HE7 := Lib.hid (HE4.out.trans s7.ext)
        clear b0 b1 g0 g1 s6 s7
        go_wp2_with fail
        refine (HAW.out _ HE7.out).mono ?_
        rintro e wa ⟨rfl, hwa⟩
        have HEA := Lib.hid (HE.out.trans (HE7.out.trans hwa))
        clear hwa
        go_wp2
        go_ret
        exact ⟨rfl, HEA.out⟩
  · refine (slim_no pn po pk pc 2 W h2).mono ?_
    rintro e w1 ⟨rfl, h1⟩
    have HE1 := Lib.hid h1
    clear x0 x1 h1 hx hv
    go_wp2_with fail
    refine (HAW.out _ HE1.out).mono ?_
    rintro e wa ⟨rfl, hwa⟩
    have HEA := Lib.hid (HE.out.trans (HE1.out.trans hwa))
    clear hwa
    go_wp2
    go_ret
    exact ⟨rfl, HEA.out⟩
end Go.Proofs.YtagahbbjljndeaaGreatDoor
