import Derived.Test.YtapcecjbmcoliaaGrLlU24
namespace Go.Proofs.Ytapcecjbmcoliaa
open Go Go.RowKit

set_option maxRecDepth 100000 in
set_option maxHeartbeats 1000000 in
/-- the same place wherever it is asked -/
theorem place_at (a : Int) (m : Nat) (hm : 0 < m) (hm1 : m ≤ 1000000000) :
    ∃ j : Nat, j < m ∧ ∀ w : World, Calls Try.prog 9 #[.int .i64 a, .int .i64 (m : Int)] w fun e w' => e = .returned (.int .i64 j) ∧ w = w' := by
  have e1 : a % 18446744073709551616 % (m : Int) = ((a % 18446744073709551616 % (m : Int)).toNat : Int) := (Int.toNat_of_nonneg (Int.emod_nonneg _ (by omega))).symm
  have e2 : (a % 18446744073709551616 % (m : Int)).toNat < m := by have := Int.emod_lt_of_pos (a % 18446744073709551616) (show (0 : Int) < m by omega); omega
  refine ⟨_, e2, fun w => ?_⟩
  go_enter Try.func9, Try.ntmps9
  go_wp2
  go_ret
  refine ⟨?_, rfl⟩
  have e3 : (IntKind.u64.wrap a).tmod (m : Int) = a % 18446744073709551616 % (m : Int) := by
    rw [IntKind.wrap_u64, Int.tmod_eq_emod_of_nonneg (by omega)]
  show Ending.returned (.int .i64 (wrap64 ((IntKind.u64.wrap a).tmod (m : Int)))) = _
  rw [e3]
  have e4 : wrap64 ((a % 18446744073709551616 % (m : Int)).toNat : Int) = ((a % 18446744073709551616 % (m : Int)).toNat : Int) := by
    generalize (a % 18446744073709551616 % (m : Int)).toNat = j at *
    unfold wrap64
    omega
  rw [(congrArg wrap64 e1).trans e4]

theorem TS.heap {w w' : World} {B c : Nat} {v : Value} {gs : List Nat} {t : List (List Bool)} (h : TS w B c v gs t) (e : w'.heap = w.heap) : TS w' B c v gs t := h.far (fun _ _ => by rw [e]) (fun _ _ => by rw [e])
theorem GBox.heap {w w' : World} {g : Nat} {v : Value} (h : GBox w g v) (e : w'.heap = w.heap) : GBox w' g v := by
  unfold GBox VBlk at h ⊢
  rw [e]; exact h
theorem gbox_one (w : World) : ∃ W, W = w.alloc (.cells #[.slice none 0 0] 27) ∧ Ext w W ∧ GBox W w.heap.size (.slice none 0 0) ∧ W.heap.size = w.heap.size + 1 :=
  ⟨_, rfl, (Below.refl _ w).alloc (Nat.le_refl _) _, VBlk.new w _ _, by simp⟩

set_option maxRecDepth 100000 in
set_option maxHeartbeats 8000000 in
theorem graph_any (ao : Option Addr) (n m cap : Nat) (L : List Int) (w : World) (h : Ns w ao m cap L) (hn : n ≤ 100) (hm : m ≤ 1000000) :
    Calls Try.prog 10 #[.int .i64 (n : Int), .slice ao m cap] w fun e w' => ∃ a v rs, (GOk a ∧ ∀ x y, a x y = true → y < n) ∧ e = .returned (.agg #[v]) ∧ RS w' w.heap.size v rs (adjM n a) ∧ Ext w w' := by
  have HH := Lib.hid h
  clear h
  obtain ⟨O, hrun, hblk⟩ := make_bools n (by omega)
  have HRUN := Lib.hid hrun
  have HBLK := Lib.hid hblk
  clear hrun hblk
  go_enter Try.func10, Try.ntmps10
  go_upto_region 1 with fail
  obtain ⟨V, hV, hEV, b1, hsz⟩ := gbox_one w
  rw [← hV]
  clear hV
  obtain ⟨C, hCe⟩ : ∃ C, w.heap.size = C := ⟨_, rfl⟩
  have HC := Lib.hid hCe
  rw [hCe] at hsz b1 ⊢
  have HEX := Lib.hid (show ∀ wx, Below C w wx → Ext w wx from fun wx h => by rw [← hCe] at h; exact h)
  have HEV := Lib.hid (show Below C w V from by rw [← hCe]; exact hEV)
  have hC0 : C + 1 ≤ V.heap.size := by omega
  have B1 := Lib.hid b1
  clear hCe hEV hsz b1
  go_wp2
  go_loopw [5, 6] (fun ti iv wr => ∃ (i : Nat) (tv : Value) (gs : List Nat) (tt : List (List Bool)), i ≤ n ∧ iv = .int .i64 (i : Int) ∧ tv = ti ∧ Hid (TS wr (C + 1) n tv gs tt) ∧ Hid (gs.length = i) ∧ Hid (GBox wr C (.slice none 0 0)) ∧ Hid (Below C w wr) ∧ C + 1 ≤ wr.heap.size)
    (fun _ iv _ => n - (intOf iv).toNat)
  case atStart => exact ⟨0, _, [], [], Nat.zero_le _, rfl, rfl, Lib.hid (TS.nil _ _ _), Lib.hid rfl, B1, HEV, hC0⟩
  case round =>
    clear B1 HEV hC0
    obtain ⟨i, tv, gs, tt, hi, rfl, rfl, hT, hgl, hG, hE, hCs⟩ := hrel
    by_cases hlt : i < n
    · have hii : (i : Int) < (n : Int) := by omega
      obtain ⟨D, hD⟩ : ∃ D, wr.heap.size = D := ⟨_, rfl⟩
      obtain ⟨X, hX⟩ : ∃ X, wr.alloc O = X := ⟨_, rfl⟩
      have hmk := HRUN.out wr
      have hbo := HBLK.out wr
      have hEX : Ext wr X := by rw [← hX]; exact (Below.refl _ _).alloc (Nat.le_refl _) _
      have hXs : X.heap.size = D + 1 := by rw [← hX, ← hD]; simp
      have hlt1 := fun k (hk : tv.ownBlock = some k) => World.ownsRow.lt hT.out.own k hk
      have hlt2 := fun i (hi : i < gs.length) => (hT.out.row i hi).2.1.lt
      rw [hX, hD] at hmk
      rw [hX, hD] at hbo
      rw [hD] at hlt1 hlt2 hCs
      have hts := hT.out.below hEX
      have hfar : tv.ownBlock ≠ some D ∧ ∀ i, i < gs.length → gs.getD i 0 ≠ D := ⟨fun e => by have := (hlt1 D e).2; omega, fun i hi e => by have := hlt2 i hi; omega⟩
      have HG := Lib.hid (hG.out.low (B := C + 1) (Below.mono hEX (by rw [hD]; exact hCs)) (by omega))
      have HE := Lib.hid (hE.out.trans (Below.mono hEX (by rw [hD]; omega)))
      have hl6 : gs.length ≤ 1000000 := by rw [hgl.out]; omega
      have HGL := hgl
      have HXS := Lib.hid hXs
      have hCX : C + 1 ≤ X.heap.size := by omega
      clear hT hG hE hEX hlt1 hlt2 hX hD hgl hXs
      go_wp2_with (at_builtin; refine wpList_append_ts X rfl (.tmp 13) (.tmp 16) rfl (C + 1) n _ gs tt D (List.replicate n false) rfl rfl hts hbo (by simp) hfar hCs hCX hl6 ?_)
      intro pv' w2 hp2' hB2
      have hsz := hB2.size
      have RT := Lib.hid hp2'
      have RL := Lib.hid (show (gs ++ [D]).length = i + 1 by simp [HGL.out])
      have RG := Lib.hid (HG.out.low hB2 (by omega))
      have RE := Lib.hid (HE.out.trans (hB2.mono (by omega)))
      clear hp2' hB2 hts hbo hfar HG HE HGL hmk
      go_wp2
      go_roundw
      case rel => exact ⟨i + 1, _, _, _, by omega, by go_num, rfl, RT, RL, RG, RE, by omega⟩
      case measure => simp [intOf] <;> omega
    · obtain rfl : n = i := by omega
      have hnn : ¬ (n : Int) < (n : Int) := by omega
      clear HRUN HBLK
      go_wp2
      go_loopw [7] (fun iv wx => ∃ (i : Nat) (tt : List (List Bool)), i ≤ m + 1 ∧ iv = .int .i64 (i : Int) ∧ Hid (TS wx (C + 1) n tv gs tt) ∧ Hid (GBox wx C (.slice none 0 0)) ∧ Hid (Below C w wx) ∧ C + 1 ≤ wx.heap.size)
        (fun iv _ => m + 1 - (intOf iv).toNat)
      case atStart => exact ⟨0, tt, Nat.zero_le _, rfl, hT, hG, hE, hCs⟩
      case round =>
        clear hT hG hE hCs
        rename World => wx
        obtain ⟨i, tt, hi, rfl, hT, hG, hE, hCs⟩ := hrel
        have hw1 : IntKind.i64.wrap ((i : Int) + 1) = ((i + 1 : Nat) : Int) := by rw [IntWalk.i64_in _ (by omega)]; simp
        have hw2 : IntKind.i64.wrap ((i : Int) + 2) = ((i + 2 : Nat) : Int) := by rw [IntWalk.i64_in _ (by omega)]; simp
        by_cases hc : i + 1 < m ∧ 0 < n
        · obtain ⟨hc1, hc2⟩ := hc
          have hi1 : ((i + 1 : Nat) : Int) < (m : Int) := by omega
          have hi2 : (n : Int) > 0 := by omega
          obtain ⟨b, cp, rfl, hbC, -, hcp, hcell⟩ := hT.out.form (by rw [hgl.out]; exact hc2)
          rw [hgl.out] at hcell hcp ⊢
          obtain ⟨lb, lo, rfl, hlc⟩ := (HH.out.below (HEX.out _ hE.out)).cells (by omega)
          have k1 := hlc i (by omega)
          have k2 := hlc (i + 1) (by omega)
          obtain ⟨x, hx⟩ : ∃ x, L.getD i 0 = x := ⟨_, rfl⟩
          obtain ⟨y, hy⟩ : ∃ y, L.getD (i + 1) 0 = y := ⟨_, rfl⟩
          rw [hx] at k1
          rw [hy] at k2
          obtain ⟨p, hp, CP⟩ := place_at x n hc2 (by omega)
          obtain ⟨q, hq, CQ⟩ := place_at y n hc2 (by omega)
          have CP := Lib.hid CP
          have CQ := Lib.hid CQ
          have hpi : (p : Int) < (n : Int) := by omega
          have hqi : (q : Int) < (n : Int) := by omega
          obtain ⟨g, hg⟩ : ∃ g, gs.getD p 0 = g := ⟨_, rfl⟩
          have e1 := hcell p hp
          obtain ⟨-, r1, r2⟩ := hT.out.row p (by rw [hgl.out]; exact hp)
          have e2 := r1.c (j := q) (by rw [r2]; exact hq)
          have e3 := r1.f q
          rw [hg] at e1 e2 e3
          generalize (tt.getD p []).getD q false = u at *
          have hg := Lib.hid hg
          clear hcell hlc hx hy r1 r2
          go_upto_region 9 with fail
          first
            | go_region_with (first
              | (go_at_call 9; (with_reducible refine (CP.out _).mono ?_); rintro e wq ⟨rfl, rfl⟩)
              | (go_at_call 9; (with_reducible refine (CQ.out _).mono ?_); rintro e wq ⟨rfl, rfl⟩))
            | fail "no walk 9"
          all_goals
            have RT := hT.out.put (i := p) (j := q) (by rw [hgl.out]; exact hp) true
            have hpC := (hT.out.row p (by rw [hgl.out]; exact hp)).1
            rw [hg.out] at RT hpC
            rw [hgl.out] at RT
            have RT := Lib.hid RT
            have RG := Lib.hid (hG.out.other (k := g) (j := q) (x := .bool true) (by omega))
            have RE := Lib.hid (hE.out.trans ((only_set1 wx g q (.bool true)).below (by omega)))
            clear hT hG hE e1 e2 e3
            go_wp2
            go_roundw
          any_goals (simp [intOf]; omega)
          all_goals
            refine ⟨i + 2, _, by omega, by go_num, Lib.hid (RT.out.heap rfl), Lib.hid (RG.out.heap rfl), ?_, by simp; omega⟩
            first | exact RE | exact Lib.hid RE.out.drew | exact Lib.hid (Below.drew RE.out)
        · have hcc : (decide (((i + 1 : Nat) : Int) < (m : Int)) && decide ((n : Int) > 0)) = false := by
            rw [Bool.eq_false_iff, ne_eq, Bool.and_eq_true, decide_eq_true_iff, decide_eq_true_iff]
            omega
          obtain ⟨ao2, cp, rfl, htab⟩ := hT.out.tab
          obtain ⟨hl1, -⟩ := And.intro hT.out.len trivial
          rw [hgl.out] at hl1
          rw [hl1] at htab ⊢
          have HLT := Lib.hid (show ∀ x y, adjT tt x y = true → y < n from fun x y h => adjT_lt hl1 htab.wid h)
          obtain ⟨W7, hW7⟩ : ∃ s, wx.heap.size = s := ⟨_, rfl⟩
          have HFT := Lib.hid (fromTable_any ao2 n cp tt wx htab (by omega))
          rw [hW7] at HFT hCs
          have HG := hG
          have HE := hE
          have HW7 := Lib.hid hW7
          clear hT hG hE htab hl1 hW7
          by_cases hc1 : i + 1 < m
          · have hi1 : ((i + 1 : Nat) : Int) < (m : Int) := by omega
            have hi2 : ¬ (n : Int) > 0 := by omega
            clear hc hcc
            go_wp2_with fail
            refine HFT.out.mono ?_
            rintro e w8 ⟨v, rs, rfl, hrs, hE8⟩
            have hg8 := HG.out.low hE8 (by rw [HW7.out]; omega)
            have k0 := hg8.c
            have k1 := hg8.f 0
            obtain ⟨po, pc, rfl, -⟩ := hrs.slE
            generalize hpn : rs.length = pn at *
            have RR := Lib.hid ((hrs.low (g := C) (j := 0) (x := .slice po pn pc) (by omega)).mono (C := C) (by omega))
            have RE := Lib.hid ((HE.out.trans (hE8.mono (by rw [HW7.out]; omega))).trans ((only_set1 w8 C 0 (.slice po pn pc)).below (Nat.le_refl _)))
            have z0 := (hg8.set (.slice po pn pc)).c
            clear hrs hE8 hg8 HFT hpn
            go_wp2
            refine bodyPost_ret (v := .agg #[.slice po pn pc]) (by simp [results, Try.results10, go_sem, z0]) rfl ⟨_, _, _, ⟨adjT_ok tt, HLT.out⟩, rfl, by rw [HC.out]; exact RR.out, HEX.out _ RE.out⟩
          · have hi1 : ¬ ((i + 1 : Nat) : Int) < (m : Int) := by omega
            clear hc hcc
            go_wp2_with fail
            refine HFT.out.mono ?_
            rintro e w8 ⟨v, rs, rfl, hrs, hE8⟩
            have hg8 := HG.out.low hE8 (by rw [HW7.out]; omega)
            have k0 := hg8.c
            have k1 := hg8.f 0
            obtain ⟨po, pc, rfl, -⟩ := hrs.slE
            generalize hpn : rs.length = pn at *
            have RR := Lib.hid ((hrs.low (g := C) (j := 0) (x := .slice po pn pc) (by omega)).mono (C := C) (by omega))
            have RE := Lib.hid ((HE.out.trans (hE8.mono (by rw [HW7.out]; omega))).trans ((only_set1 w8 C 0 (.slice po pn pc)).below (Nat.le_refl _)))
            have z0 := (hg8.set (.slice po pn pc)).c
            clear hrs hE8 hg8 HFT hpn
            go_wp2
            refine bodyPost_ret (v := .agg #[.slice po pn pc]) (by simp [results, Try.results10, go_sem, z0]) rfl ⟨_, _, _, ⟨adjT_ok tt, HLT.out⟩, rfl, by rw [HC.out]; exact RR.out, HEX.out _ RE.out⟩
end Go.Proofs.Ytapcecjbmcoliaa
