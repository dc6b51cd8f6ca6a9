/- FloatSterbenz returns true, from what its callees do. -/
import Derived.Test.YtijbdfcenbekmaaDoorCFMonoL
import Derived.Test.YtijbdfcenbekmaaDoorCFOf
namespace Go.Proofs.YtijbdfcenbekmaaDoor
open Go.RowKit

theorem fz_bound {f : Nat} (h : finB f = true) : fz f < 2 ^ (52 + low46) := by
  rw [Nat.pow_add, ← fz_inf, ← fz_mag f]
  exact fz_lt (of_decide_eq_true h) (Nat.le_refl _)
theorem low46_le : 52 + low46 = 2098 := rfl
theorem fzs_abs (f : Nat) : (fzs f).natAbs = fz f := by unfold fzs; split <;> omega
theorem fdy_is {f : Nat} (h : finB f = true) : Is (fdy f) 1074 (fzs f) := by
  unfold fdy
  rw [h, if_pos rfl]
  exact Is.of_dmk (S := 1074) (B := 52 + low46) (by omega) (by rw [fzs_abs]; exact fz_bound h) (by rw [low46_le]; omega)
theorem is_double {d : Dy} {N : Int} (h : Is d 1074 N) (hb : N.natAbs < 2 ^ (52 + low46)) : Is (dscale d 1) 1074 (2 * N) := by
  obtain ⟨m, e, h1, h2, h3, h4⟩ := h
  subst h1
  have e1 : (max (-131072 : Int) (min 1 131072)) = 1 := by decide
  have e2 : m * 2 ^ (e + 1 + (1074 : Nat)).toNat = 2 * N := by
    rw [h4, show (e + 1 + (1074 : Nat)).toNat = (e + (1074 : Nat)).toNat + 1 by omega, Int.pow_succ]
    rw [← Int.mul_assoc, Int.mul_comm]
  have h5 := is_mk (y := m) (f := e + 1) (S := 1074) (B := 52 + low46 + 1) (by omega) (by omega) (by rw [low46_le]; omega) (by rw [e2, Nat.pow_succ]; omega)
  rw [e2] at h5
  show Is (dmk m (e + max (-131072) (min 1 131072))) 1074 (2 * N)
  rw [e1]
  exact h5
theorem is_dcmp {d d' : Dy} {N N' : Int} (h : Is d 1074 N) (h' : Is d' 1074 N') : DcmpIs d d' (sgn3 N N') true := by
  have h1 := is_cmp h h' (by omega)
  refine Or.inr ⟨?_, ?_, h1.symm, rfl⟩
  · obtain ⟨m, e, h2, _⟩ := h; rw [h2]; simp
  · obtain ⟨m, e, h2, _⟩ := h'; rw [h2]; simp

/-- what the law's comparisons give -/
theorem sterb_cases (a b : Nat) (mode : Int) : ∃ c1 ok1 c2 ok2, DcmpIs (dscale (fdy (fabsF a)) 1) (fdy (fabsF b)) c1 ok1 ∧ DcmpIs (fdy (fabsF a)) (dscale (fdy (fabsF b)) 1) c2 ok2 ∧
    (ok1 = true → ok2 = true → ¬ c1 < 0 → ¬ 0 < c2 → DcmpIs (fdy (faddF (fabsF a) (fnegF (fabsF b)) mode)) (dsub (fdy (fabsF a)) (fdy (fabsF b))) 0 true) := by
  have hno : ∀ x, finB x = false → fdy (fabsF x) = none := by
    intro x hx
    have h1 : ¬ fmag x < 9218868437227405312 := of_decide_eq_false hx
    have h2 : finB (fabsF x) = false := by
      unfold fabsF
      split
      · decide
      · unfold finB; rw [show fmag (fmag x) = fmag x from Nat.mod_eq_of_lt (fmag_lt x)]; exact hx
    unfold fdy; rw [h2]; rfl
  cases ha : finB a
  · rw [hno a ha]
    exact ⟨0, false, 0, false, Or.inl ⟨Or.inl rfl, rfl, rfl⟩, Or.inl ⟨Or.inl rfl, rfl, rfl⟩, fun h => by cases h⟩
  · cases hb : finB b
    · rw [hno b hb]
      exact ⟨0, false, 0, false, Or.inl ⟨Or.inr rfl, rfl, rfl⟩, Or.inl ⟨Or.inr rfl, rfl, rfl⟩, fun h => by cases h⟩
    · obtain ⟨a1, a2, a3, a4, a5⟩ := fabs_facts ha
      obtain ⟨b1, b2, b3, b4, b5⟩ := fabs_facts hb
      have ia := fdy_is a2
      have ib := fdy_is b2
      have ba := fz_bound a2
      have bb := fz_bound b2
      rw [← fzs_abs] at ba bb
      rw [a4] at ia ba
      rw [b4] at ib bb
      refine ⟨_, _, _, _, is_dcmp (is_double ia ba) ib, is_dcmp ia (is_double ib bb), fun _ _ h1 h2 => ?_⟩
      have g1 : fz b ≤ 2 * fz a := by
        rcases Nat.lt_or_ge (2 * fz a) (fz b) with h | h
        · exfalso; apply h1; unfold sgn3; rw [if_pos (by omega)]; omega
        · exact h
      have g2 : fz a ≤ 2 * fz b := by
        rcases Nat.lt_or_ge (2 * fz b) (fz a) with h | h
        · exfalso; apply h2; unfold sgn3; rw [if_neg (by omega), if_pos (by omega)]; omega
        · exact h
      obtain ⟨s1, s2⟩ := sterbenz mode ha hb g1 g2
      have is := fdy_is s1
      rw [s2] at is
      have hadd : Is (dsub (fdy (fabsF a)) (fdy (fabsF b))) 1074 ((fz a : Int) + -(fz b : Int)) := by
        refine ia.add ib.neg (by omega) (B := 52 + low46) ?_ (by rw [low46_le]; omega)
        omega
      have := is_dcmp is hadd
      rwa [show sgn3 ((fz a : Int) - (fz b : Int)) ((fz a : Int) + -(fz b : Int)) = 0 by unfold sgn3; rw [if_neg (by omega), if_neg (by omega)]] at this

set_option maxRecDepth 100000 in
theorem fsub_at {a b r : Nat} {mode : Int} (ha : a < 18446744073709551616) (hb : b < 18446744073709551616) (h : faddF a (fnegF b) mode = r) (w : World) : Calls Tryd.prog 31 #[.int .u64 (a : Int), .int .u64 (b : Int), .int .i64 mode] w fun e w' => e = .returned (.int .u64 (r : Int)) ∧ Ext w w' := by
  obtain ⟨n, hn⟩ : ∃ n, fnegF b = n := ⟨_, rfl⟩
  have ln : n < 18446744073709551616 := by rw [← hn]; exact fnegF_lt
  rw [hn] at h
  have CN := Lib.hid (fun w => negF_at hb hn w)
  have CA := Lib.hid (fun w => addF_at ha ln h w)
  clear hn ln h
  go_enter Tryd.func31, Tryd.ntmps31
  go_wp2_with fail
  refine (CN.out _).mono ?_
  rintro e w1 ⟨rfl, rfl⟩
  go_wp2_with fail
  refine (CA.out _).mono ?_
  rintro e w2 ⟨rfl, hE⟩
  go_wp2
  go_ret
  exact ⟨rfl, hE⟩

theorem fof_at {f : Nat} {d : Dy} (hf : f < 18446744073709551616) (h : fdy f = d) (w : World) (hT : Table64 w) : Calls Tryd.prog 28 #[.int .u64 (f : Int)] w fun e w' => ∃ v, e = .returned v ∧ Dn w' v d ∧ Ext w w' := by rw [← h]; exact fof_any f hf w hT
theorem fabsF_lt (f : Nat) : fabsF f < 18446744073709551616 := by have := fmag_lt f; unfold fabsF; split <;> omega

set_option maxRecDepth 100000 in
set_option maxHeartbeats 8000000 in
theorem fsterbenz_any (a b : Nat) (mode : Int) (ha : a < 18446744073709551616) (hb : b < 18446744073709551616) (w : World) (hT : Table w) (hT6 : Table64 w) :
    Calls Tryd.prog 6 #[.int .u64 (a : Int), .int .u64 (b : Int), .int .i64 mode] w fun e w' => e = .returned (.bool true) ∧ Ext w w' := by
  obtain ⟨c1, ok1, c2, ok2, D1, D2, key⟩ := sterb_cases a b mode
  have la := fabsF_lt a
  have lb := fabsF_lt b
  obtain ⟨p, hp⟩ : ∃ p, fabsF a = p := ⟨_, rfl⟩
  obtain ⟨q, hq⟩ : ∃ q, fabsF b = q := ⟨_, rfl⟩
  have CPA := Lib.hid (fun w => absF_at ha hp w)
  have CQA := Lib.hid (fun w => absF_at hb hq w)
  rw [hp] at la D1 D2 key
  rw [hq] at lb D1 D2 key
  obtain ⟨s, hs⟩ : ∃ s, faddF p (fnegF q) mode = s := ⟨_, rfl⟩
  have ls : s < 18446744073709551616 := by rw [← hs]; exact fadd_lt mode fnegF_lt
  have CS := Lib.hid (fun w => fsub_at la lb hs w)
  rw [hs] at key
  obtain ⟨X, hX⟩ : ∃ X, fdy p = X := ⟨_, rfl⟩
  obtain ⟨Y, hY⟩ : ∃ Y, fdy q = Y := ⟨_, rfl⟩
  obtain ⟨Z, hZ⟩ : ∃ Z, fdy s = Z := ⟨_, rfl⟩
  have CX := Lib.hid (fun w h => fof_at la hX w h)
  have CY := Lib.hid (fun w h => fof_at lb hY w h)
  have CZ := Lib.hid (fun w h => fof_at ls hZ w h)
  rw [hX, hY] at D1 D2 key
  rw [hZ] at key
  have KEY := Lib.hid key
  have D1 := Lib.hid D1
  have D2 := Lib.hid D2
  have HT0 := Lib.hid hT
  have HT60 := Lib.hid hT6
  clear key hX hY hZ hs hp hq la lb ls ha hb hT hT6
  have EX := Lib.hid (Ext.refl w)
  go_enter Tryd.func6, Tryd.ntmps6
  go_wp2_with fail
  refine (CPA.out _).mono ?_
  rintro r w1 ⟨rfl, rfl⟩
  go_wp2_with fail
  refine (CX.out _ (HT60.out.below EX.out)).mono ?_
  rintro r w2 ⟨xv, rfl, hx, hE⟩
  have EX := Lib.hid (Ext.trans EX.out hE)
  clear hE
  go_wp2_with fail
  refine (CQA.out _).mono ?_
  rintro r w3 ⟨rfl, rfl⟩
  go_wp2_with fail
  refine (CY.out _ (HT60.out.below EX.out)).mono ?_
  rintro r w4 ⟨yv, rfl, hy, hE⟩
  have hx := hx.ext hE
  have EX := Lib.hid (Ext.trans EX.out hE)
  clear hE
  obtain ⟨xb, xn, xo, xk, xc, xe, rfl⟩ := hx.parts
  obtain ⟨yb, yn, yo, yk, yc, ye, rfl⟩ := hy.parts
  go_upto_region 2 with fail
  obtain ⟨W, hW, hB, bx, bY, hz⟩ := boxes_two_d w4 xb xn xo xk xc xe yb yn yo yk yc ye
  rw [← hW]
  clear hW
  have HX := Lib.hid (fun wx (h : Ext W wx) => (hx.ext (Ext.trans hB h)).dg)
  have HY := Lib.hid (fun wx (h : Ext W wx) => (hy.ext (Ext.trans hB h)).dg)
  have HB := Lib.hid (Ext.trans EX.out hB)
  have HT := Lib.hid (HT0.out.below HB.out)
  have HT6 := Lib.hid (HT60.out.below HB.out)
  have EX := Lib.hid (Ext.refl W)
  clear hx hy hB hz HT0 HT60
  generalize w4.heap.size = B at *
  have HC := Lib.hid (show ∀ wx, Ext W wx → (wx.cell? ⟨B, 0, none⟩ = some (.bool xb) ∧ wx.cell? ⟨B, 1, none⟩ = some (.bool xn) ∧ wx.cell? ⟨B, 2, none⟩ = some (.slice xo xk xc) ∧ wx.cell? ⟨B, 3, none⟩ = some (.int .i64 xe)) ∧ (wx.cell? ⟨(B + 1), 0, none⟩ = some (.bool yb) ∧ wx.cell? ⟨(B + 1), 1, none⟩ = some (.bool yn) ∧ wx.cell? ⟨(B + 1), 2, none⟩ = some (.slice yo yk yc) ∧ wx.cell? ⟨(B + 1), 3, none⟩ = some (.int .i64 ye)) from fun wx h => ⟨⟨(bx.ext h).c0, (bx.ext h).c1, (bx.ext h).c2, (bx.ext h).c3⟩, (bY.ext h).c0, (bY.ext h).c1, (bY.ext h).c2, (bY.ext h).c3⟩)
  clear bx bY
  have SX := Lib.hid (fun wx (h : Ext W wx) => dscale_any _ _ 1 wx (HX.out wx h) (HT.out.below h))
  have SY := Lib.hid (fun wx (h : Ext W wx) => dscale_any _ _ 1 wx (HY.out wx h) (HT.out.below h))
  have SU := Lib.hid (fun wx (h : Ext W wx) => dsub_any _ _ _ _ wx (HX.out wx h) (HY.out wx h) (HT.out.below h))
  obtain ⟨⟨x0, x1, x2, x3⟩, y0, y1, y2, y3⟩ := HC.out _ EX.out
  go_upto_region 2 with fail
  have e0 : Ext W W.drew := Ext.trans EX.out ((Below.refl _ _).drew)
  go_cut [9, 10] from 22 (fun p q wx => p = .int .i64 c1 ∧ q = .bool ok1 ∧ Ext W wx)
  case first =>
    go_region_held3 (fun wx => (wx.cell? ⟨B, 0, none⟩ = some (.bool xb) ∧ wx.cell? ⟨B, 1, none⟩ = some (.bool xn) ∧ wx.cell? ⟨B, 2, none⟩ = some (.slice xo xk xc) ∧ wx.cell? ⟨B, 3, none⟩ = some (.int .i64 xe)) ∧ (wx.cell? ⟨(B + 1), 0, none⟩ = some (.bool yb) ∧ wx.cell? ⟨(B + 1), 1, none⟩ = some (.bool yn) ∧ wx.cell? ⟨(B + 1), 2, none⟩ = some (.slice yo yk yc) ∧ wx.cell? ⟨(B + 1), 3, none⟩ = some (.int .i64 ye)))
      (first | exact HC.out _ (by assumption))
      (first
        | (go_at_call 30; refine (SX.out _ (by assumption)).mono ?_; rintro e wn ⟨v, rfl, hv, hE1⟩; have e1 : Ext W wn := Ext.trans (by assumption) hE1; have CV := Lib.hid (fun wx (h : Ext wn wx) (h2 : Ext W wx) => dcmp_at (hv.ext h).dg (HY.out wx h2) (HT.out.below h2) D1.out); have f1 : Ext wn wn := Ext.refl wn)
        | (go_at_call 13; refine (CV.out _ (by assumption) (by assumption)).mono ?_; rintro e wk ⟨rfl, hE1⟩; have e1 : Ext W wk := Ext.trans (by assumption) hE1))
    all_goals
      have EF : Ext W wk := by assumption
      go_wp2
      go_meet
    all_goals
      exact ⟨rfl, rfl, EF⟩
  case rest =>
    obtain ⟨rfl, rfl, hE⟩ := hcut
    have EX := Lib.hid hE
    clear hE x0 x1 x2 x3 y0 y1 y2 y3 e0
    obtain ⟨⟨x0, x1, x2, x3⟩, y0, y1, y2, y3⟩ := HC.out _ EX.out
    go_upto_region 3 with fail
    have e0 : Ext W wc.drew := Ext.trans EX.out ((Below.refl _ _).drew)
    go_cut [11, 12] from 29 (fun p q wx => p = .int .i64 c2 ∧ q = .bool ok2 ∧ Ext W wx)
    case first =>
      go_region_held3 (fun wx => (wx.cell? ⟨B, 0, none⟩ = some (.bool xb) ∧ wx.cell? ⟨B, 1, none⟩ = some (.bool xn) ∧ wx.cell? ⟨B, 2, none⟩ = some (.slice xo xk xc) ∧ wx.cell? ⟨B, 3, none⟩ = some (.int .i64 xe)) ∧ (wx.cell? ⟨(B + 1), 0, none⟩ = some (.bool yb) ∧ wx.cell? ⟨(B + 1), 1, none⟩ = some (.bool yn) ∧ wx.cell? ⟨(B + 1), 2, none⟩ = some (.slice yo yk yc) ∧ wx.cell? ⟨(B + 1), 3, none⟩ = some (.int .i64 ye)))
        (first | exact HC.out _ (by assumption))
        (first
          | (go_at_call 30; refine (SY.out _ (by assumption)).mono ?_; rintro e wn ⟨v, rfl, hv, hE1⟩; have e1 : Ext W wn := Ext.trans (by assumption) hE1; have CV := Lib.hid (fun wx (h : Ext wn wx) (h2 : Ext W wx) => dcmp_at (HX.out wx h2) (hv.ext h).dg (HT.out.below h2) D2.out); have f1 : Ext wn wn := Ext.refl wn)
          | (go_at_call 13; refine (CV.out _ (by assumption) (by assumption)).mono ?_; rintro e wk ⟨rfl, hE1⟩; have e1 : Ext W wk := Ext.trans (by assumption) hE1))
      all_goals
        have EF : Ext W wk := by assumption
        go_wp2
        go_meet
      all_goals
        exact ⟨rfl, rfl, EF⟩
    case rest =>
      obtain ⟨rfl, rfl, hE⟩ := hcut
      have EX := Lib.hid hE
      clear hE x0 x1 x2 x3 y0 y1 y2 y3 e0
      cases ok1 with
      | false =>
        go_wp2_with fail
        refine (fawake_any _ (HT.out.below EX.out)).mono ?_
        rintro r wz ⟨rfl, hE⟩
        go_wp2
        go_ret
        exact ⟨rfl, HB.out.trans (Ext.trans EX.out hE)⟩
      | true =>
        cases ok2 with
        | false =>
          go_wp2_with fail
          refine (fawake_any _ (HT.out.below EX.out)).mono ?_
          rintro r wz ⟨rfl, hE⟩
          go_wp2
          go_ret
          exact ⟨rfl, HB.out.trans (Ext.trans EX.out hE)⟩
        | true =>
          by_cases hc1 : c1 < 0
          · skip
            go_wp2_with fail
            refine (fawake_any _ (HT.out.below EX.out)).mono ?_
            rintro r wz ⟨rfl, hE⟩
            go_wp2
            go_ret
            exact ⟨rfl, HB.out.trans (Ext.trans EX.out hE)⟩
          · by_cases hc2 : 0 < c2
            · skip
              go_wp2_with fail
              refine (fawake_any _ (HT.out.below EX.out)).mono ?_
              rintro r wz ⟨rfl, hE⟩
              go_wp2
              go_ret
              exact ⟨rfl, HB.out.trans (Ext.trans EX.out hE)⟩
            · have D3 := Lib.hid (KEY.out rfl rfl (by omega) (by omega))
              go_wp2_with fail
              refine (CPA.out _).mono ?_
              rintro r w5 ⟨rfl, rfl⟩
              go_wp2_with fail
              refine (CQA.out _).mono ?_
              rintro r w6 ⟨rfl, rfl⟩
              go_wp2_with fail
              refine (CS.out _).mono ?_
              rintro r w7 ⟨rfl, hE⟩
              have EX := Lib.hid (Ext.trans EX.out hE)
              clear hE
              obtain ⟨⟨x0, x1, x2, x3⟩, y0, y1, y2, y3⟩ := HC.out _ EX.out
              go_upto_region 7 with fail
              have e0 : Ext W w7.drew := Ext.trans EX.out ((Below.refl _ _).drew)
              go_cut [14, 15] from 57 (fun p q wx => p = .int .i64 0 ∧ q = .bool true ∧ Ext W wx)
              case first =>
                go_region_held3 (fun wx => (wx.cell? ⟨B, 0, none⟩ = some (.bool xb) ∧ wx.cell? ⟨B, 1, none⟩ = some (.bool xn) ∧ wx.cell? ⟨B, 2, none⟩ = some (.slice xo xk xc) ∧ wx.cell? ⟨B, 3, none⟩ = some (.int .i64 xe)) ∧ (wx.cell? ⟨(B + 1), 0, none⟩ = some (.bool yb) ∧ wx.cell? ⟨(B + 1), 1, none⟩ = some (.bool yn) ∧ wx.cell? ⟨(B + 1), 2, none⟩ = some (.slice yo yk yc) ∧ wx.cell? ⟨(B + 1), 3, none⟩ = some (.int .i64 ye)))
                  (first | exact HC.out _ (by assumption))
                  (first
                    | (go_at_call 28; refine (CZ.out _ (HT6.out.below (by assumption))).mono ?_; rintro e wn ⟨v, rfl, hv, hE1⟩; have e1 : Ext W wn := Ext.trans (by assumption) hE1; have HV := Lib.hid (fun wx (h : Ext wn wx) => (hv.ext h).dg); have f1 : Ext wn wn := Ext.refl wn; (first | (have g1 : Ext wm wn := Ext.trans (by assumption) hE1) | skip))
                    | (go_at_call 32; refine (SU.out _ (by assumption)).mono ?_; rintro e wm ⟨u, rfl, hu, hE1⟩; have e1 : Ext W wm := Ext.trans (by assumption) hE1; have HU := Lib.hid (fun wx (h : Ext wm wx) => (hu.ext h).dg); have g1 : Ext wm wm := Ext.refl wm; (first | (have f1 : Ext wn wm := Ext.trans (by assumption) hE1) | skip))
                    | (go_at_call 13; refine (dcmp_at (HV.out _ (by assumption)) (HU.out _ (by assumption)) (HT.out.below (by assumption)) D3.out).mono ?_; rintro e wk ⟨rfl, hE1⟩; have e1 : Ext W wk := Ext.trans (by assumption) hE1))
                all_goals
                  have EF : Ext W wk := by assumption
                  go_wp2
                  go_meet
                all_goals
                  exact ⟨rfl, rfl, EF⟩
              case rest =>
                obtain ⟨rfl, rfl, hE⟩ := hcut
                have EX := Lib.hid hE
                clear hE x0 x1 x2 x3 y0 y1 y2 y3 e0
                go_wp2_with fail
                refine (fawake_any _ (HT.out.below EX.out)).mono ?_
                rintro r wz ⟨rfl, hE⟩
                go_wp2
                go_ret
                exact ⟨rfl, HB.out.trans (Ext.trans EX.out hE)⟩

theorem fsterbenz_int (a b mode : Int) (a0 : 0 ≤ a) (a1 : a < 18446744073709551616) (b0 : 0 ≤ b) (b1 : b < 18446744073709551616) (w : World) (hT : Table w) (hT6 : Table64 w) :
    Calls Tryd.prog 6 #[.int .u64 a, .int .u64 b, .int .i64 mode] w fun e w' => e = .returned (.bool true) ∧ Ext w w' := by
  obtain ⟨x, rfl⟩ := Int.eq_ofNat_of_zero_le a0
  obtain ⟨y, rfl⟩ := Int.eq_ofNat_of_zero_le b0
  exact fsterbenz_any x y mode (by omega) (by omega) w hT hT6
end Go.Proofs.YtijbdfcenbekmaaDoor
