import Derived.Test.YtkomhemjodbkpaaDoorTxU39
namespace Go.Proofs.YtkomhemjodbkpaaDoor
open Go Go.RowKit

theorem sgd_limbs (ng : Bool) (N : Nat) : sgd ng (limbs N) = if ng then -((N : Nat) : Int) else (N : Int) := by
  unfold sgd
  rw [num_limbs]
theorem all_false {l : List UInt8} {k : Nat} (h : k < l.length) (h2 : isDig (l.getD k 0) = false) : l.all isDig = false := by
  rw [List.all_eq_false]
  exact ⟨_, getD_mem h, by rw [h2]; decide⟩

set_option maxRecDepth 100000 in
set_option maxHeartbeats 8000000 in
theorem refParse_any (s : ByteArray) (hs : s.size ≤ 100000) (X E : Int) (hX : (parseSays s.data.toList).1 = X) (hE : (parseSays s.data.toList).2 = E) (w : World) :
    Calls Tryd.prog 8 #[.string s] w (ParseOut X E w) := by
  have HL := Lib.hid (Lib.size_eq s)
  go_enter Tryd.func8, Tryd.ntmps8
  go_upto_region 1 with fail
  obtain ⟨W, hW, hB, hx, hsz⟩ := box_new w false none 0 0
  rw [← hW]
  clear hW
  generalize hBe : w.heap.size = B at *
  have HBe := Lib.hid hBe
  have HBW := Lib.hid hB
  have HX := Lib.hid hx
  clear hBe hB hx
  by_cases hbig : 1024 < s.size
  · have hbig' : (1024 : Int) < (s.size : Int) := by omega
    have e1 : parseSays s.data.toList = (0, 2) := by unfold parseSays; rw [if_pos (by rw [← HL.out]; exact hbig)]
    rw [e1] at hX hE
    have HS1 := Lib.hid hX
    have HS2 := Lib.hid hE
    clear hX hE e1
    obtain ⟨wr, hwr⟩ : ∃ wr, W = wr := ⟨_, rfl⟩
    subst hwr
    have HX2 := HX
    have HBW2 := HBW
    have q0 := HX2.out.c0
    have q1 := HX2.out.c1
    have q2 := HX2.out.f 0
    have q3 := HX2.out.f 1
    have hst := HX2.out.stored false none 0 0
    have u0 := hst.c0
    have u1 := hst.c1
    have hbl := Lib.hid (HBW2.out.trans ((only_set2 W B (.bool false) (.slice none 0 0)).below (Nat.le_refl _)))
    clear hst
    go_wp2
    refine bodyPost_ret (v := .tuple #[.agg #[.bool false, .slice none 0 0], .int .i64 2]) (by simp [results, Tryd.results8, go_sem, u0, u1]) rfl ?_
    refine ⟨false, none, 0, 0, by rw [← HS2.out]; try rfl, by rw [← HS1.out]; exact bn_none _, ?_⟩
    rw [HBe.out]; exact hbl.out
  · have hbig' : ¬ (1024 : Int) < (s.size : Int) := by omega
    obtain ⟨D, hD⟩ : ∃ D, digitsOf s.data.toList = D := ⟨_, rfl⟩
    obtain ⟨b, hb⟩ : ∃ b, (decide (D.length ≠ 0) && D.all isDig) = b := ⟨_, rfl⟩
    obtain ⟨ng, hng⟩ : ∃ ng, decide ((s.data.toList.getD 0 0).toNat = 45) = ng := ⟨_, rfl⟩
    have e1 : parseSays s.data.toList = if b then ((if ng then -((hornD 0 D : Nat) : Int) else ((hornD 0 D : Nat) : Int)), 0) else (0, 7) := by unfold parseSays; rw [if_neg (by rw [← HL.out]; exact hbig), hD, hb, hng]
    rw [e1] at hX hE
    have HS1 := Lib.hid hX
    have HS2 := Lib.hid hE
    have HB := Lib.hid hb
    clear hX hE e1 hb
    obtain ⟨x, hx⟩ : ∃ x : Nat, (s.data.toList.getD 0 0).toNat = x := ⟨_, rfl⟩
    have HIX := Lib.hid (show 0 < s.size → ∀ W, (Instr.index 9 (.string s) (.int .i64 0)).run Tryd.prog W = .ok (.int .u8 ((x : Nat) : Int)) W from fun hpos W => by
      have := run_byte hpos W
      rw [hx] at this
      exact this)
    have hdx : (if (decide (x = 43) || ng) = true then s.data.toList.drop 1 else s.data.toList) = D := by
      rw [← hD, ← hng]; unfold digitsOf; rw [hx]
    rw [hx] at hng
    obtain ⟨p, hp⟩ : ∃ p, decide (x = 43) = p := ⟨_, rfl⟩
    have hq1 : ((x : Int) == 43) = p := by rw [← hp]; exact beq_nat x 43
    have hq2 : ((x : Int) == 45) = ng := by rw [← hng]; exact beq_nat x 45
    rw [hp] at hdx
    have HDD := Lib.hid hdx
    have HX0 := Lib.hid (show s.size = 0 → s.data.toList = D ∧ ng = false from fun h0 => by
      have hnil : s.data.toList = [] := by rw [HL.out] at h0; exact List.eq_nil_of_length_eq_zero h0
      refine ⟨by rw [← hD, hnil]; rfl, ?_⟩
      rw [← hng, ← hx, hnil]; rfl)
    clear hx hdx hp hng hD
    go_upto_region 5 with fail
    go_cut [25] from 13 (fun cv wx => ∃ c0 : Bool, cv = .bool c0 ∧ W = wx ∧ Hid (c0 = true → 0 < s.size ∧ s.data.toList.drop 1 = D) ∧ Hid (c0 = false → s.data.toList = D ∧ ng = false))
    case first =>
      by_cases h0 : 0 < s.size
      · have hpi : (0 : Int) < (s.size : Int) := by omega
        have hix := HIX.out h0
        cases hnc : ng with
        | true =>
          subst hnc
          go_wp2
          go_meet
          exact ⟨true, rfl, by first | rfl | trivial, fun _ => ⟨h0, by have h := HDD.out; rw [Bool.or_true, if_pos rfl] at h; exact h⟩, (fun h => by cases h)⟩
        | false =>
          subst hnc
          cases hpc : p with
          | true =>
            subst hpc
            go_wp2
            go_meet
            exact ⟨true, rfl, by first | rfl | trivial, fun _ => ⟨h0, by have h := HDD.out; rw [if_pos (by decide)] at h; exact h⟩, (fun h => by cases h)⟩
          | false =>
            subst hpc
            go_wp2
            go_meet
            exact ⟨false, rfl, by first | rfl | trivial, (fun h => by cases h), fun _ => ⟨by have h := HDD.out; rw [if_neg (by decide)] at h; exact h, by first | rfl | trivial⟩⟩
      · have hn0 : ¬ (0 : Int) < (s.size : Int) := by omega
        have H0 := Lib.hid (show s.size = 0 by omega)
        clear h0
        go_wp2
        go_meet
        exact ⟨false, rfl, by first | rfl | trivial, (fun h => by cases h), fun _ => HX0.out H0.out⟩
    case rest =>
    obtain ⟨c0, rfl, hwc, hc1, hc2⟩ := hcut
    subst hwc
    go_upto_if 25 with fail
    go_cut [4, 5] from 26 (fun av nv wx => ∃ a0 : Nat, a0 ≤ s.size ∧ av = .int .i64 a0 ∧ nv = .bool ng ∧ s.data.toList.drop a0 = D ∧ W = wx)
    case first =>
      cases c0 with
      | true =>
        obtain ⟨h0, hd1⟩ := hc1 rfl
        have hix := HIX.out h0
        have HD1 := Lib.hid hd1
        clear hd1
        go_wp2
        go_meet
        exact ⟨1, by omega, rfl, rfl, HD1.out, rfl⟩
      | false =>
        obtain ⟨hd0, rfl⟩ := hc2 rfl
        have HD1 := Lib.hid hd0
        clear hd0
        go_wp2
        go_meet
        exact ⟨0, by omega, rfl, rfl, HD1.out, rfl⟩
    case rest =>
      clear hc1 hc2 hq1 hq2
      obtain ⟨a0, ha0, rfl, rfl, hdr, hwc⟩ := hcut
      subst hwc
      have hDl : D.length = s.size - a0 := by rw [← hdr, List.length_drop, ← HL.out]
      have HDR := Lib.hid hdr
      have HDL := Lib.hid hDl
      clear hdr hDl
      have hcs : W.heap.size = W.heap.size := rfl
      obtain ⟨C, hC⟩ : ∃ C, W.heap.size = C := ⟨_, rfl⟩
      have hBC : B < C := by omega
      have hCs : C ≤ W.heap.size := by omega
      have HKW := Lib.hid (show ∀ wx, Below C W wx → Box wx B false none 0 0 ∧ Below B w wx from fun wx h => by rw [← hC] at h; exact ⟨HX.out.below h, HBW.out.trans (h.mono (by omega))⟩)
      clear hC hcs
      by_cases hE0 : a0 = s.size
      · obtain ⟨wr, hwr⟩ : ∃ wr, W = wr := ⟨_, rfl⟩
        subst hwr
        have HX2 := HX
        have HBW2 := HBW
        obtain rfl : false = b := by rw [← HB.out, HDL.out, hE0, Nat.sub_self]; rfl
        have hb0 : ((a0 : Int) == (s.size : Int)) = true := by rw [beq_nat]; exact decide_eq_true hE0
        subst hE0
        have q0 := HX2.out.c0
        have q1 := HX2.out.c1
        have q2 := HX2.out.f 0
        have q3 := HX2.out.f 1
        have hst := HX2.out.stored false none 0 0
        have u0 := hst.c0
        have u1 := hst.c1
        have hbl := Lib.hid (HBW2.out.trans ((only_set2 W B (.bool false) (.slice none 0 0)).below (Nat.le_refl _)))
        clear hst
        go_wp2
        refine bodyPost_ret (v := .tuple #[.agg #[.bool false, .slice none 0 0], .int .i64 7]) (by simp [results, Tryd.results8, go_sem, u0, u1]) rfl ?_
        refine ⟨false, none, 0, 0, by rw [← HS2.out]; try rfl, by rw [← HS1.out]; exact bn_none _, ?_⟩
        rw [HBe.out]; exact hbl.out
      · have hb0 : ((a0 : Int) == (s.size : Int)) = false := by rw [beq_nat]; exact decide_eq_false hE0
        have hn0 : ¬ (a0 : Int) = (s.size : Int) := by omega
        go_wp2
        go_loopw [4, 6, 7, 8] (fun av mv _ _ wr => ∃ j : Nat, a0 ≤ j ∧ j ≤ s.size ∧ av = .int .i64 j ∧ Own wr C mv (limbs (hornD 0 (D.take (j - a0)))) ∧ Hid (∀ c ∈ D.take (j - a0), isDig c = true) ∧ Below C W wr ∧ C ≤ wr.heap.size) (fun av _ _ _ _ => s.size - (intOf av).toNat)
        case atStart => exact ⟨a0, Nat.le_refl _, ha0, rfl, by rw [Nat.sub_self, List.take_zero, hornD_nil, limbs_zero]; exact Own.nil _ _, (by rw [Nat.sub_self, List.take_zero]; intro c hc; cases hc), Below.refl _ _, hCs⟩
        case round =>
          obtain ⟨j, hj0, hj, rfl, hown, hdg, hbw, hws⟩ := hrel
          obtain ⟨HX2, HBW2⟩ := HKW.out _ hbw
          have HX2 := Lib.hid HX2
          have HBW2 := Lib.hid HBW2
          by_cases hlt : j < s.size
          · have hix := fun W => run_byte hlt W
            obtain ⟨x, hx⟩ : ∃ x : Nat, (s.data.toList.getD j 0).toNat = x := ⟨_, rfl⟩
            rw [hx] at hix
            have hxd : D.getD (j - a0) 0 = s.data.toList.getD j 0 := by
              rw [← HDR.out]; simp only [List.getD, List.getElem?_drop]; rw [show a0 + (j - a0) = j by omega]
            have hjl : j - a0 < D.length := by rw [HDL.out]; omega
            have hdig : isDig (D.getD (j - a0) 0) = (decide (48 ≤ x) && decide (x ≤ 57)) := by unfold isDig; rw [hxd, hx]
            have no : ¬ (48 ≤ x ∧ x ≤ 57) → false = b := fun hn => by
              rw [← HB.out, all_false hjl (by rw [hdig, ← Bool.decide_and]; exact decide_eq_false hn), Bool.and_false]
            have NO := Lib.hid no
            have HDG := Lib.hid hdig
            have HXD := Lib.hid (show (D.getD (j - a0) 0).toNat = x by rw [hxd]; exact hx)
            clear no hdig hx hxd
            by_cases h1 : x < 48
            · have h1' : (x : Int) < 48 := by omega
              obtain rfl := NO.out (by omega)
              have q0 := HX2.out.c0
              have q1 := HX2.out.c1
              have q2 := HX2.out.f 0
              have q3 := HX2.out.f 1
              have hst := HX2.out.stored false none 0 0
              have u0 := hst.c0
              have u1 := hst.c1
              have hbl := Lib.hid (HBW2.out.trans ((only_set2 wr B (.bool false) (.slice none 0 0)).below (Nat.le_refl _)))
              clear hst
              go_wp2
              refine bodyPost_ret (v := .tuple #[.agg #[.bool false, .slice none 0 0], .int .i64 7]) (by simp [results, Tryd.results8, go_sem, u0, u1]) rfl ?_
              refine ⟨false, none, 0, 0, by rw [← HS2.out]; try rfl, by rw [← HS1.out]; exact bn_none _, ?_⟩
              rw [HBe.out]; exact hbl.out
            · have h1' : ¬ (x : Int) < 48 := by omega
              by_cases h2 : 57 < x
              · have h2' : (57 : Int) < x := by omega
                obtain rfl := NO.out (by omega)
                have q0 := HX2.out.c0
                have q1 := HX2.out.c1
                have q2 := HX2.out.f 0
                have q3 := HX2.out.f 1
                have hst := HX2.out.stored false none 0 0
                have u0 := hst.c0
                have u1 := hst.c1
                have hbl := Lib.hid (HBW2.out.trans ((only_set2 wr B (.bool false) (.slice none 0 0)).below (Nat.le_refl _)))
                clear hst
                go_wp2
                refine bodyPost_ret (v := .tuple #[.agg #[.bool false, .slice none 0 0], .int .i64 7]) (by simp [results, Tryd.results8, go_sem, u0, u1]) rfl ?_
                refine ⟨false, none, 0, 0, by rw [← HS2.out]; try rfl, by rw [← HS1.out]; exact bn_none _, ?_⟩
                rw [HBe.out]; exact hbl.out
              · have h2' : ¬ (57 : Int) < x := by omega
                obtain ⟨d, hd⟩ : ∃ d, x = 48 + d := ⟨x - 48, by omega⟩
                have hd9 : d ≤ 9 := by omega
                obtain ⟨V, hV⟩ : ∃ V, hornD 0 (D.take (j - a0)) = V := ⟨_, rfl⟩
                have hnx : D.take (j + 1 - a0) = D.take (j - a0) ++ [D.getD (j - a0) 0] := by
                  rw [show j + 1 - a0 = (j - a0) + 1 by omega, List.take_succ_eq_append_getElem hjl]
                  simp [List.getD, hjl]
                have HNX := Lib.hid (show hornD 0 (D.take (j + 1 - a0)) = V * 10 + d by
                  rw [hnx, hornD_append, hV, hornD_cons, hornD_nil, HXD.out]; omega)
                have HND := Lib.hid (show ∀ c ∈ D.take (j + 1 - a0), isDig c = true from fun c hc => by
                  rw [hnx] at hc
                  rcases List.mem_append.1 hc with hc | hc
                  · exact hdg c hc
                  · rw [List.mem_singleton] at hc
                    rw [hc, HDG.out, decide_eq_true (show 48 ≤ x by omega), decide_eq_true (show x ≤ 57 by omega)]; rfl)
                have hVl : (limbs V).length ≤ 1000000 := by
                  rw [← hV]
                  have h1 := horn_limbs _ hdg
                  rw [List.length_take] at h1
                  omega
                rw [hV] at hown
                clear hV hnx hdg
                obtain ⟨ao, cap, rfl, -⟩ := hown.sl (Wf.limbs V) (by omega)
                obtain ⟨n, hn⟩ : ∃ n, (limbs V).length = n := ⟨_, rfl⟩
                rw [hn] at hown hVl ⊢
                have HN := Lib.hid hn
                clear hn
                have HM0 := Lib.hid (MulAdd.start (M := 10) (g := (d : Int)) (Wf.limbs V) (by omega) (by omega))
                have hd48 : (48 : Int) + (d : Int) - 48 = (d : Int) := by omega
                go_wp2
                go_loopw [7, 8] (fun cv iv wx => ∃ (k : Nat) (cc : Int) (Lk : List Int), k ≤ n ∧ iv = .int .i64 k ∧ cv = .int .u64 cc ∧ 0 ≤ cc ∧ cc ≤ 10 ∧ MulAdd (limbs V) 10 (d : Int) k Lk cc ∧ Own wx C (.slice ao n cap) Lk ∧ Below C W wx ∧ C ≤ wx.heap.size)
                  (fun _ iv _ => n - (intOf iv).toNat)
                case atStart => exact ⟨0, _, _, Nat.zero_le _, rfl, rfl, HM0.out.c0, HM0.out.c1, HM0.out, hown, hbw, hws⟩
                case round =>
                  obtain ⟨k, cc, Lk, hk, rfl, rfl, hc0, hc1, hA, hk1, ho, hBs⟩ := hrel
                  by_cases hkn : k < n
                  · obtain ⟨g, T, rfl, hgB, hu, -, hcap⟩ := hk1.form (by intro h; have := hA.len; rw [h, HN.out] at this; simp at this; omega)
                    have hlk : Lk.length = n := by rw [hA.len, HN.out]
                    have c1 := hu.cell k (by omega)
                    have c2 := hu.frozen k
                    rw [hA.at] at c1
                    have hyr := (Wf.limbs V).getD k
                    obtain ⟨y, hy⟩ : ∃ y, (limbs V).getD k 0 = y := ⟨_, rfl⟩
                    rw [hy] at c1 hyr
                    have st := hA.step (by omega) (Wf.limbs V) (by rw [HN.out]; exact hkn) hy
                    rw [Int.mul_comm y 10] at st
                    have ST := Lib.hid st
                    have OW := Lib.hid (fun z => hk1.setCell k z)
                    obtain ⟨y0, y1⟩ := hyr
                    clear hA hk1 hy hu st hlk
                    have hps : IntKind.u64.wrap (10 * y) = 10 * y := by rw [IntKind.wrap_u64]; omega
                    have hss : IntKind.u64.wrap (cc + 10 * y) = cc + 10 * y := by rw [IntKind.wrap_u64]; omega
                    go_wp2
                    go_roundw
                    case rel =>
                      exact ⟨k + 1, _, _, by omega, by go_num, rfl, ST.out.c0, ST.out.c1, ST.out, OW.out _, ho.setCell hgB _, by simpa [World.setCell] using hBs⟩
                    case measure => simp [intOf] <;> omega
                  · obtain rfl : k = n := by omega
                    have hcl : cc < 4294967296 := by omega
                    have HA := Lib.hid ((show MulAdd (limbs V) ((10 : Nat) : Int) (d : Int) (limbs V).length Lk cc by rw [HN.out]; exact hA).norm (by omega) hcl)
                    have hlk : Lk.length = k := by rw [hA.len, HN.out]
                    clear hA
                    by_cases hp : 0 < cc
                    · have hcw : IntKind.u32.wrap cc = cc := by rw [IntKind.wrap_u32]; omega
                      have HLk := Lib.hid (show Lk.length ≤ 1099511627776 by omega)
                      have HE := Lib.hid (show Lk ++ [cc] = limbs (V * 10 + d) by have h := HA.out; rw [if_pos hp] at h; exact h)
                      clear hlk
                      go_wp2_with (at_builtin; refine wpList_append_u32 _ rfl (.tmp 79) (.tmp 82) rfl C _ Lk cc rfl rfl hk1 hBs HLk.out ?_)
                      intro v' w2 hown2 hB2
                      have HO2 := Lib.hid hown2
                      have hs2 := hB2.size
                      clear hown2 hk1
                      go_wp2
                      go_roundw
                      case rel => exact ⟨j + 1, by omega, by omega, by go_num, by rw [HNX.out, ← HE.out]; exact HO2.out, HND.out, ho.trans hB2, by omega⟩
                      case measure => simp [intOf] <;> omega
                    · have HE := Lib.hid (show Lk = limbs (V * 10 + d) by have h := HA.out; rw [if_neg hp] at h; exact h)
                      have HK1 := Lib.hid hk1
                      clear hk1 hlk
                      go_wp2
                      go_roundw
                      case rel => exact ⟨j + 1, by omega, by omega, by go_num, by rw [HNX.out, ← HE.out]; exact HK1.out, HND.out, ho, hBs⟩
                      case measure => simp [intOf] <;> omega
          · obtain rfl : j = s.size := by omega
            have htk : D.take (s.size - a0) = D := List.take_of_length_le (by rw [HDL.out]; exact Nat.le_refl _)
            rw [htk] at hown hdg
            obtain rfl : true = b := by
              rw [← HB.out, decide_eq_true (show D.length ≠ 0 by rw [HDL.out]; omega), List.all_eq_true.2 hdg]; rfl
            have hNl : (limbs (hornD 0 D)).length ≤ 1000000 := by
              have h1 := horn_limbs _ hdg
              have h2 := HDL.out
              omega
            obtain ⟨N, hN⟩ : ∃ N, hornD 0 D = N := ⟨_, rfl⟩
            rw [hN] at hown hNl
            have HNN := Lib.hid hN
            clear htk hdg hN
            obtain ⟨ao, cap, rfl, hsl⟩ := hown.sl (Wf.limbs N) (by omega)
            have M1 := Lib.hid (make1_any ng ao _ cap (limbs N) wr hsl)
            clear hown hsl
            go_wp2_with fail
            refine M1.out.mono ?_
            rintro e w3 ⟨nr, ro, k, cr, rfl, hbn, hkk, hB3⟩
            rw [sgd_limbs] at hbn
            have HX3 := Lib.hid (HX2.out.below hB3)
            have q0 := HX3.out.c0
            have q1 := HX3.out.c1
            have q2 := HX3.out.f 0
            have q3 := HX3.out.f 1
            have hst := HX3.out.stored nr ro k cr
            have u0 := hst.c0
            have u1 := hst.c1
            have hbl := Lib.hid ((HBW2.out.trans (hB3.mono (by omega))).trans ((only_set2 w3 B (.bool nr) (.slice ro k cr)).below (Nat.le_refl _)))
            have HBN := Lib.hid (show Bn _ nr ro k cr _ from ⟨hbn.neg, hbn.sl.past_box HX3.out (only_set2 w3 B (.bool nr) (.slice ro k cr))⟩)
            clear hst hbn
            go_wp2
            refine bodyPost_ret (v := .tuple #[.agg #[.bool nr, .slice ro k cr], .int .i64 0]) (by simp [results, Tryd.results8, go_sem, u0, u1]) rfl ?_
            refine ⟨nr, ro, k, cr, by rw [← HS2.out]; rfl, ?_, ?_⟩
            · rw [← HS1.out, HNN.out]
              exact HBN.out
            · rw [HBe.out]; exact hbl.out
end Go.Proofs.YtkomhemjodbkpaaDoor
