import Derived.Test.YtekocoklfnojmaaDoorIUndoU27
namespace Go.Proofs.YtekocoklfnojmaaDoor
open Go.RowKit

theorem div64_norm (hi lo y : Nat) (hlt : hi < y) (hl : lo < 18446744073709551616) (hy0 : 9223372036854775808 ≤ y) (hy1 : y < 18446744073709551616) (w : World) :
    Calls Tryd.prog 80 #[.int .u64 (hi : Int), .int .u64 (lo : Int), .int .u64 (y : Int)] w fun r w' => r = .returned (.tuple #[.int .u64 (((hi * 18446744073709551616 + lo) / y : Nat) : Int), .int .u64 (((hi * 18446744073709551616 + lo) % y : Nat) : Int)]) ∧ Ext w w' := by
  by_cases hz : hi = 0
  · subst hz
    refine (div64_zero lo y hl hy1 (by omega) w).mono fun r w' ⟨hr, hw⟩ => ⟨?_, hw⟩
    rw [hr, Nat.zero_mul, Nat.zero_add]
  · exact (div64_any hi lo y 0 hlt hz hl hy0 hy1 (by omega) w).mono fun r w' ⟨hr, hw⟩ => ⟨hr, by rw [hw]; exact Below.refl _ _⟩

set_option maxRecDepth 100000 in
/-- a word that is not zero, normalized -/
theorem fnormal_word (lo : Nat) (e : Int) (t : Bool) (hlo : lo < 18446744073709551616) (h0 : lo ≠ 0) (he0 : -1000000000000 ≤ e) (he1 : e ≤ 1000000000000) (w : World) :
    Calls Tryd.prog 75 #[.agg #[.int .u64 0, .int .u64 (lo : Int), .int .i64 e, .bool t]] w fun r w' => ∃ H k : Nat, r = .returned (.agg #[.int .u64 (H : Int), .int .u64 0, .int .i64 (e - k), .bool t]) ∧
      H * 18446744073709551616 = lo * 2 ^ k ∧ 9223372036854775808 ≤ H ∧ H < 18446744073709551616 ∧ k ≤ 127 ∧ Ext w w' := by
  refine (fnormal_any 0 lo e t (by omega) hlo (by omega) he0 he1 w).mono fun r w' ⟨H, L, k, hr, h1, h2, h3, h4, h5, hw⟩ => ?_
  rw [Nat.zero_mul, Nat.zero_add] at h1
  obtain rfl := low_zero h1 h2 hlo h4
  rw [Nat.add_zero] at h1
  exact ⟨H, k, hr, h1, h2, h3, h5, hw⟩

/-- the normalized operands of a quotient -/
structure QuF (hx lx ly X1 X0 i Y1 j : Nat) : Prop where
  ex : X1 * 18446744073709551616 + X0 = (hx * 18446744073709551616 + lx) * 2 ^ i
  ey : Y1 * 18446744073709551616 = ly * 2 ^ j
  x0 : 9223372036854775808 ≤ X1
  x1 : X1 < 18446744073709551616
  x2 : X0 < 18446744073709551616
  y0 : 9223372036854775808 ≤ Y1
  y1 : Y1 < 18446744073709551616
  i1 : i ≤ 127
  j1 : j ≤ 127

set_option maxRecDepth 100000 in
set_option maxHeartbeats 8000000 in
theorem fquot_any (hx lx ly : Nat) (ex ey : Int) (tx : Bool) (h1 : hx < 18446744073709551616) (h2 : lx < 18446744073709551616) (h3 : hx * 18446744073709551616 + lx ≠ 0) (h4 : ly < 18446744073709551616) (h5 : ly ≠ 0) (ex0 : -1000000000 ≤ ex) (ex1 : ex ≤ 1000000000) (ey0 : -1000000000 ≤ ey) (ey1 : ey ≤ 1000000000) (w : World) :
    Calls Tryd.prog 61 #[.agg #[.int .u64 (hx : Int), .int .u64 (lx : Int), .int .i64 ex, .bool tx], .agg #[.int .u64 0, .int .u64 (ly : Int), .int .i64 ey, .bool false]] w fun r w' => ∃ X1 X0 i Y1 j : Nat, QuF hx lx ly X1 X0 i Y1 j ∧
      r = .returned (.agg #[.int .u64 ((X1 / Y1 : Nat) : Int), .int .u64 (((X1 % Y1 * 18446744073709551616 + X0) / Y1 : Nat) : Int), .int .i64 (ex - i - (ey - j) - 64), .bool (tx || decide ((X1 % Y1 * 18446744073709551616 + X0) % Y1 ≠ 0))]) ∧ Ext w w' := by
  have CX := Lib.hid (fnormal_any hx lx ex tx h1 h2 h3 (by omega) (by omega))
  have CY := Lib.hid (fnormal_word ly ey false h4 h5 (by omega) (by omega))
  clear h1 h2 h3 h4 h5
  go_enter Tryd.func61, Tryd.ntmps61
  go_upto_region 1 with fail
  obtain ⟨W, hW, hB, hbx, hby, hbr, hz⟩ := boxes_nnn w hx lx ex tx 0 ly ey false 0 0 0 false
  rw [← hW]
  clear hW
  generalize hBe : w.heap.size = B at *
  have HBe := Lib.hid hBe
  clear hBe
  go_cut [] from 8 (fun wx => ∃ X1 X0 i Y1 j : Nat, QuF hx lx ly X1 X0 i Y1 j ∧ NBox wx B X1 X0 (ex - i) tx ∧ NBox wx (B + 1) Y1 0 (ey - j) false ∧ NBox wx (B + 1 + 1) 0 0 0 false ∧ Below B w wx)
  case first =>
    have k0 := hbx.c0
    have k1 := hbx.c1
    have k2 := hbx.c2
    have k3 := hbx.c3
    have l0 := hby.c0
    have l1 := hby.c1
    have l2 := hby.c2
    have l3 := hby.c3
    have TAG1 := Lib.hid True.intro
    go_region_with (first
      | (go_at_call 75; clear TAG1; (with_reducible refine (CX.out _).mono ?_); rintro r1 w1 ⟨X1, X0, i, rfl, e1, e2, e3, e4, e5, hw1⟩; have E1 := Lib.hid (And.intro e1 (And.intro e2 (And.intro e3 (And.intro e4 e5)))); clear e1 e2 e3 e4 e5; have ex1 : Below W.heap.size W w1 := (Below.refl _ _).drew.trans hw1; have fb := hby.below ex1; have m0 := fb.c0; have m1 := fb.c1; have m2 := fb.c2; have m3 := fb.c3)
      | (go_at_call 75; (with_reducible refine (CY.out _).mono ?_); rintro r2 w2 ⟨Y1, j, rfl, e1, e2, e3, e4, hw2⟩; have E2 := Lib.hid (And.intro e1 (And.intro e2 (And.intro e3 e4))); clear e1 e2 e3 e4; clear m0 m1 m2 m3; have ex2 : Below W.heap.size W w2 := ex1.trans (Below.mono hw2 ex1.size); have fa := hbx.below ex2; have fb2 := hby.below ex2; have fr2 := hbr.below ex2; have a0 := fa.c0; have a1 := fa.c1; have a2 := fa.c2; have a3 := fa.c3; have b0 := fb2.c0; have b1 := fb2.c1; have b2 := fb2.c2; have b3 := fb2.c3; have g0 := fa.f 0; have g1 := fa.f 1; have g2 := fa.f 2; have g3 := fa.f 3; have n0 := fb2.f 0; have n1 := fb2.f 1; have n2 := fb2.f 2; have n3 := fb2.f 3))
    all_goals
      go_wp2
      go_meet
    all_goals
      clear a0 a1 a2 a3 b0 b1 b2 b3 g0 g1 g2 g3 n0 n1 n2 n3 k0 k1 k2 k3 l0 l1 l2 l3
      obtain ⟨Z, hZ, z1, z2, z3⟩ := two_nums fa fb2 (hB.trans (Below.mono ex2 (by omega))) X1 X0 (ex - i) Y1 0 (ey - j) tx false
      rw [hZ]
      refine ⟨X1, X0, i, Y1, j, ⟨E1.out.1, E2.out.1, E1.out.2.1, E1.out.2.2.1, E1.out.2.2.2.1, E2.out.2.1, E2.out.2.2.1, E1.out.2.2.2.2, E2.out.2.2.2⟩, z1, z2, ?_, z3⟩
      rw [← hZ]
      exact (fr2.only (only_nset4 _ _ _ _ _ _) (by omega)).only (only_nset4 _ _ _ _ _ _) (by omega)
  case rest =>
    obtain ⟨X1, X0, i, Y1, j, qf, xb, yb, rb, hb⟩ := hcut
    clear hbx hby hbr hB hz CX CY
    have D1 := Lib.hid (fun w => div64_norm 0 X1 Y1 (by have := qf.y0; omega) qf.x1 qf.y0 qf.y1 w)
    have hr1 : X1 % Y1 < Y1 := Nat.mod_lt _ (by have := qf.y0; omega)
    have D2 := Lib.hid (fun w => div64_norm (X1 % Y1) X0 Y1 hr1 qf.x2 qf.y0 qf.y1 w)
    rw [Nat.zero_mul, Nat.zero_add] at D1
    have HQF := Lib.hid qf
    have hi1 := qf.i1
    have hj1 := qf.j1
    clear qf hr1
    obtain ⟨Q1, hQ1⟩ : ∃ n, X1 / Y1 = n := ⟨_, rfl⟩
    obtain ⟨R1, hR1⟩ : ∃ n, X1 % Y1 = n := ⟨_, rfl⟩
    obtain ⟨Q0, hQ0⟩ : ∃ n, (R1 * 18446744073709551616 + X0) / Y1 = n := ⟨_, rfl⟩
    obtain ⟨R0, hR0⟩ : ∃ n, (R1 * 18446744073709551616 + X0) % Y1 = n := ⟨_, rfl⟩
    rw [hQ1, hR1] at D1
    rw [hR1, hQ0, hR0] at D2
    have HQR := Lib.hid (And.intro hQ1 (And.intro hR1 (And.intro hQ0 hR0)))
    clear hQ1 hR1 hQ0 hR0
    have c0 := xb.c0
    have c1 := xb.c1
    have c2 := xb.c2
    have c3 := xb.c3
    have d0 := yb.c0
    have d1 := yb.c1
    have d2 := yb.c2
    have HBX := Lib.hid (And.intro xb (And.intro yb (And.intro rb hb)))
    clear xb yb rb hb
    go_wp2_with fail
    refine (D1.out _).mono ?_
    rintro r w1 ⟨rfl, hE⟩
    have xb := HBX.out.1.below hE
    have yb := HBX.out.2.1.below hE
    have rb := HBX.out.2.2.1.below hE
    have hb := HBX.out.2.2.2.trans (Below.mono hE (by have := HBX.out.1.lt; omega))
    clear c0 c1 c2 c3 d0 d1 d2 hE
    have c0 := xb.c0
    have c1 := xb.c1
    have c2 := xb.c2
    have c3 := xb.c3
    have d0 := yb.c0
    have d1 := yb.c1
    have d2 := yb.c2
    have HBX := Lib.hid (And.intro xb (And.intro yb (And.intro rb hb)))
    clear xb yb rb hb
    go_wp2_with fail
    refine (D2.out _).mono ?_
    rintro r w2 ⟨rfl, hE⟩
    have xb := HBX.out.1.below hE
    have yb := HBX.out.2.1.below hE
    have rb := HBX.out.2.2.1.below hE
    have hb := HBX.out.2.2.2.trans (Below.mono hE (by have := HBX.out.1.lt; omega))
    clear c0 c1 c2 c3 d0 d1 d2 hE
    have c0 := xb.c0
    have c1 := xb.c1
    have c2 := xb.c2
    have c3 := xb.c3
    have d0 := yb.c0
    have d1 := yb.c1
    have d2 := yb.c2
    have q0 := rb.c0
    have q1 := rb.c1
    have q2 := rb.c2
    have q3 := rb.c3
    have p0 := rb.f 0
    have p1 := rb.f 1
    have p2 := rb.f 2
    have p3 := rb.f 3
    obtain ⟨E, hE⟩ : ∃ E, ex - i - (ey - j) - 64 = E := ⟨_, rfl⟩
    have hE0 : -1000000500 * 2 ≤ E ∧ E ≤ 1000000500 * 2 := by omega
    cases tx with
    | true =>
      have z := rb.stored Q1 Q0 E true
      have z0 := z.c0
      have z1 := z.c1
      have z2 := z.c2
      have z3 := z.c3
      have B1 := Lib.hid (hb.trans ((only_nset4 w2 (B + 1 + 1) (.int .u64 Q1) (.int .u64 Q0) (.int .i64 E) (.bool true)).below (B := B) (by omega)))
      have HE := Lib.hid hE
      clear z xb yb rb hb HBX
      go_wp2
      refine bodyPost_ret (v := .agg #[.int .u64 Q1, .int .u64 Q0, .int .i64 E, .bool true]) (by simp [results, Tryd.results61, go_sem, z0, z1, z2, z3]) rfl ⟨X1, X0, i, Y1, j, HQF.out, ?_, ?_⟩
      · obtain ⟨f1, f2, f3, f4⟩ := HQR.out
        rw [f1, f2, f3, f4, HE.out]
        rfl
      · show Below _ _ _
        rw [HBe.out]
        exact B1.out
    | false =>
      by_cases hR : R0 = 0
      · have hr : ((R0 : Int) != 0) = false := by simp [hR]
        have HRR := Lib.hid (show decide (R0 ≠ 0) = false by simp [hR])
        clear hR
        have z := rb.stored Q1 Q0 E false
        have z0 := z.c0
        have z1 := z.c1
        have z2 := z.c2
        have z3 := z.c3
        have B1 := Lib.hid (hb.trans ((only_nset4 w2 (B + 1 + 1) (.int .u64 Q1) (.int .u64 Q0) (.int .i64 E) (.bool false)).below (B := B) (by omega)))
        have HE := Lib.hid hE
        clear z xb yb rb hb HBX
        go_wp2
        refine bodyPost_ret (v := .agg #[.int .u64 Q1, .int .u64 Q0, .int .i64 E, .bool false]) (by simp [results, Tryd.results61, go_sem, z0, z1, z2, z3]) rfl ⟨X1, X0, i, Y1, j, HQF.out, ?_, ?_⟩
        · obtain ⟨f1, f2, f3, f4⟩ := HQR.out
          rw [f1, f2, f3, f4, HE.out, HRR.out]
          rfl
        · show Below _ _ _
          rw [HBe.out]
          exact B1.out
      · have hr : ((R0 : Int) != 0) = true := by simp; omega
        have HRR := Lib.hid (show decide (R0 ≠ 0) = true by simp [hR])
        clear hR
        have z := rb.stored Q1 Q0 E true
        have z0 := z.c0
        have z1 := z.c1
        have z2 := z.c2
        have z3 := z.c3
        have B1 := Lib.hid (hb.trans ((only_nset4 w2 (B + 1 + 1) (.int .u64 Q1) (.int .u64 Q0) (.int .i64 E) (.bool true)).below (B := B) (by omega)))
        have HE := Lib.hid hE
        clear z xb yb rb hb HBX
        go_wp2
        refine bodyPost_ret (v := .agg #[.int .u64 Q1, .int .u64 Q0, .int .i64 E, .bool true]) (by simp [results, Tryd.results61, go_sem, z0, z1, z2, z3]) rfl ⟨X1, X0, i, Y1, j, HQF.out, ?_, ?_⟩
        · obtain ⟨f1, f2, f3, f4⟩ := HQR.out
          rw [f1, f2, f3, f4, HE.out, HRR.out]
          rfl
        · show Below _ _ _
          rw [HBe.out]
          exact B1.out

end Go.Proofs.YtekocoklfnojmaaDoor
