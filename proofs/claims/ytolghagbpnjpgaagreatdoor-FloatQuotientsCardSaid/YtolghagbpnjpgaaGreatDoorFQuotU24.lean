import Derived.Test.YtolghagbpnjpgaaGreatDoorFQuotU23
import Derived.Test.YtolghagbpnjpgaaGreatDoorFQuotU13
import Derived.Test.YtolghagbpnjpgaaGreatDoorFQuotU4
import Derived.Test.YtolghagbpnjpgaaGreatDoorFQuotU18
import Derived.Test.YtolghagbpnjpgaaGreatDoorFQuotU14
import Derived.Test.YtolghagbpnjpgaaGreatDoorFQuotU19
import Derived.Test.YtolghagbpnjpgaaGreatDoorFQuotU20
import Derived.WalkKit
import Derived.WalkSmall
import Derived.Lib.Hide
import Derived.Test.YtolghagbpnjpgaaGreatDoorFQuotU15
import Derived.Test.YtolghagbpnjpgaaGreatDoorFQuotU22
import Derived.Deep.CutBlock
namespace Go.Proofs.YtolghagbpnjpgaaGreatDoor
open Go.RowKit

theorem div64_norm (hi lo y : Nat) (hlt : hi < y) (hl : lo < 18446744073709551616) (hy0 : 9223372036854775808 ≤ y) (hy1 : y < 18446744073709551616) (w : World) :
    Calls Tryz.prog 135 #[.int .u64 (hi : Int), .int .u64 (lo : Int), .int .u64 (y : Int)] w fun r w' => r = .returned (.tuple #[.int .u64 (((hi * 18446744073709551616 + lo) / y : Nat) : Int), .int .u64 (((hi * 18446744073709551616 + lo) % y : Nat) : Int)]) ∧ Ext w w' := by
  by_cases hz : hi = 0
  · subst hz
    refine (div64_zero lo y hl hy1 (by omega) w).mono fun r w' ⟨hr, hw⟩ => ⟨?_, hw⟩
    rw [hr, Nat.zero_mul, Nat.zero_add]
  · exact (div64_any hi lo y 0 hlt hz hl hy0 hy1 (by omega) w).mono fun r w' ⟨hr, hw⟩ => ⟨hr, by rw [hw]; exact Below.refl _ _⟩

set_option maxRecDepth 100000 in
/-- a word that is not zero, normalized -/
theorem fnormal_word (lo : Nat) (e : Int) (t : Bool) (hlo : lo < 18446744073709551616) (h0 : lo ≠ 0) (he0 : -1000000000000 ≤ e) (he1 : e ≤ 1000000000000) (w : World) :
    Calls Tryz.prog 134 #[.agg #[.int .u64 0, .int .u64 (lo : Int), .int .i64 e, .bool t]] w fun r w' => ∃ H k : Nat, r = .returned (.agg #[.int .u64 (H : Int), .int .u64 0, .int .i64 (e - k), .bool t]) ∧
      H * 18446744073709551616 = lo * 2 ^ k ∧ 9223372036854775808 ≤ H ∧ H < 18446744073709551616 ∧ k ≤ 127 ∧ Ext w w' := by
  refine (fnormal_any 0 lo e t (by omega) hlo (by omega) he0 he1 w).mono fun r w' ⟨H, L, k, hr, h1, h2, h3, h4, h5, hw⟩ => ?_
  rw [Nat.zero_mul, Nat.zero_add] at h1
  obtain rfl := low_zero h1 h2 hlo h4
  rw [Nat.add_zero] at h1
  exact ⟨H, k, hr, h1, h2, h3, h5, hw⟩

/-- the normalized operands of a quotient -/
structure QuF (hx lx ly X1 X0 i Y1 j : Nat) : Prop where
  ex : X1 * 18446744073709551616 + X0 = (hx * 18446744073709551616 + lx) * 2 ^ i
  ey : Y1 * 18446744073709551616 = ly * 2 ^ j
  x0 : 9223372036854775808 ≤ X1
  x1 : X1 < 18446744073709551616
  x2 : X0 < 18446744073709551616
  y0 : 9223372036854775808 ≤ Y1
  y1 : Y1 < 18446744073709551616
  i1 : i ≤ 127
  j1 : j ≤ 127

set_option maxRecDepth 100000 in
set_option maxHeartbeats 8000000 in
theorem fquot_any (hx lx ly : Nat) (ex ey : Int) (tx : Bool) (h1 : hx < 18446744073709551616) (h2 : lx < 18446744073709551616) (h3 : hx * 18446744073709551616 + lx ≠ 0) (h4 : ly < 18446744073709551616) (h5 : ly ≠ 0) (ex0 : -1000000000 ≤ ex) (ex1 : ex ≤ 1000000000) (ey0 : -1000000000 ≤ ey) (ey1 : ey ≤ 1000000000) (w : World) :
    Calls Tryz.prog 72 #[.agg #[.int .u64 (hx : Int), .int .u64 (lx : Int), .int .i64 ex, .bool tx], .agg #[.int .u64 0, .int .u64 (ly : Int), .int .i64 ey, .bool false]] w fun r w' => ∃ X1 X0 i Y1 j : Nat, QuF hx lx ly X1 X0 i Y1 j ∧
      r = .returned (.agg #[.int .u64 ((X1 / Y1 : Nat) : Int), .int .u64 (((X1 % Y1 * 18446744073709551616 + X0) / Y1 : Nat) : Int), .int .i64 (ex - i - (ey - j) - 64), .bool (tx || decide ((X1 % Y1 * 18446744073709551616 + X0) % Y1 ≠ 0))]) ∧ Ext w w' := by
  have CX := Lib.hid (fnormal_any hx lx ex tx h1 h2 h3 (by omega) (by omega))
  have CY := Lib.hid (fnormal_word ly ey false h4 h5 (by omega) (by omega))
  clear h1 h2 h3 h4 h5
  go_enter Tryz.func72, Tryz.ntmps72
  go_upto_region 1 with fail
  obtain ⟨W, hW, hB, hbx, hby, hbr, hz⟩ := boxes_nnn w hx lx ex tx 0 ly ey false 0 0 0 false
  rw [← hW]
  clear hW
  generalize hBe : w.heap.size = B at *
  have HBe := Lib.hid hBe
  clear hBe
  go_cut [] from 8 (fun wx => ∃ X1 X0 i Y1 j : Nat, QuF hx lx ly X1 X0 i Y1 j ∧ NBox wx B X1 X0 (ex - i) tx ∧ NBox wx (B + 1) Y1 0 (ey - j) false ∧ NBox wx (B + 1 + 1) 0 0 0 false ∧ Below B w wx)
  case first =>
    have k0 := hbx.c0
    have k1 := hbx.c1
    have k2 := hbx.c2
    have k3 := hbx.c3
    have l0 := hby.c0
    have l1 := hby.c1
    have l2 := hby.c2
    have l3 := hby.c3
    have TAG1 := Lib.hid True.intro
    go_region_with (first
      | (go_at_call 134; clear TAG1; (with_reducible refine (CX.out _).mono ?_); rintro r1 w1 ⟨X1, X0, i, rfl, e1, e2, e3, e4, e5, hw1⟩; have E1 := Lib.hid (And.intro e1 (And.intro e2 (And.intro e3 (And.intro e4 e5)))); clear e1 e2 e3 e4 e5; have ex1 : Below W.heap.size W w1 := (Below.refl _ _).drew.trans hw1; have fb := hby.below ex1; have m0 := fb.c0; have m1 := fb.c1; have m2 := fb.c2; have m3 := fb.c3)
      | (go_at_call 134; (with_reducible refine (CY.out _).mono ?_); rintro r2 w2 ⟨Y1, j, rfl, e1, e2, e3, e4, hw2⟩; have E2 := Lib.hid (And.intro e1 (And.intro e2 (And.intro e3 e4))); clear e1 e2 e3 e4; clear m0 m1 m2 m3; have ex2 : Below W.heap.size W w2 := ex1.trans (Below.mono hw2 ex1.size); have fa := hbx.below ex2; have fb2 := hby.below ex2; have fr2 := hbr.below ex2; have a0 := fa.c0; have a1 := fa.c1; have a2 := fa.c2; have a3 := fa.c3; have b0 := fb2.c0; have b1 := fb2.c1; have b2 := fb2.c2; have b3 := fb2.c3; have g0 := fa.f 0; have g1 := fa.f 1; have g2 := fa.f 2; have g3 := fa.f 3; have n0 := fb2.f 0; have n1 := fb2.f 1; have n2 := fb2.f 2; have n3 := fb2.f 3))
    all_goals
      go_wp2
      go_meet
    all_goals
      clear a0 a1 a2 a3 b0 b1 b2 b3 g0 g1 g2 g3 n0 n1 n2 n3 k0 k1 k2 k3 l0 l1 l2 l3
      obtain ⟨Z, hZ, z1, z2, z3⟩ := two_nums fa fb2 (hB.trans (Below.mono ex2 (by omega))) X1 X0 (ex - i) Y1 0 (ey - j) tx false
      rw [hZ]
      refine ⟨X1, X0, i, Y1, j, ⟨E1.out.1, E2.out.1, E1.out.2.1, E1.out.2.2.1, E1.out.2.2.2.1, E2.out.2.1, E2.out.2.2.1, E1.out.2.2.2.2, E2.out.2.2.2⟩, z1, z2, ?_, z3⟩
      rw [← hZ]
      exact (fr2.only (only_nset4 _ _ _ _ _ _) (by omega)).only (only_nset4 _ _ _ _ _ _) (by omega)
  case rest =>
    obtain ⟨X1, X0, i, Y1, j, qf, xb, yb, rb, hb⟩ := hcut
    clear hbx hby hbr hB hz CX CY
    have D1 := Lib.hid (fun w => div64_norm 0 X1 Y1 (by have := qf.y0; omega) qf.x1 qf.y0 qf.y1 w)
    have hr1 : X1 % Y1 < Y1 := Nat.mod_lt _ (by have := qf.y0; omega)
    have D2 := Lib.hid (fun w => div64_norm (X1 % Y1) X0 Y1 hr1 qf.x2 qf.y0 qf.y1 w)
    rw [Nat.zero_mul, Nat.zero_add] at D1
    have HQF := Lib.hid qf
    have hi1 := qf.i1
    have hj1 := qf.j1
    clear qf hr1
    obtain ⟨Q1, hQ1⟩ : ∃ n, X1 / Y1 = n := ⟨_, rfl⟩
    obtain ⟨R1, hR1⟩ : ∃ n, X1 % Y1 = n := ⟨_, rfl⟩
    obtain ⟨Q0, hQ0⟩ : ∃ n, (R1 * 18446744073709551616 + X0) / Y1 = n := ⟨_, rfl⟩
    obtain ⟨R0, hR0⟩ : ∃ n, (R1 * 18446744073709551616 + X0) % Y1 = n := ⟨_, rfl⟩
    rw [hQ1, hR1] at D1
    rw [hR1, hQ0, hR0] at D2
    have HQR := Lib.hid (And.intro hQ1 (And.intro hR1 (And.intro hQ0 hR0)))
    clear hQ1 hR1 hQ0 hR0
    have c0 := xb.c0
    have c1 := xb.c1
    have c2 := xb.c2
    have c3 := xb.c3
    have d0 := yb.c0
    have d1 := yb.c1
    have d2 := yb.c2
    have HBX := Lib.hid (And.intro xb (And.intro yb (And.intro rb hb)))
    clear xb yb rb hb
    go_wp2_with fail
    refine (D1.out _).mono ?_
    rintro r w1 ⟨rfl, hE⟩
    have xb := HBX.out.1.below hE
    have yb := HBX.out.2.1.below hE
    have rb := HBX.out.2.2.1.below hE
    have hb := HBX.out.2.2.2.trans (Below.mono hE (by have := HBX.out.1.lt; omega))
    clear c0 c1 c2 c3 d0 d1 d2 hE
    have c0 := xb.c0
    have c1 := xb.c1
    have c2 := xb.c2
    have c3 := xb.c3
    have d0 := yb.c0
    have d1 := yb.c1
    have d2 := yb.c2
    have HBX := Lib.hid (And.intro xb (And.intro yb (And.intro rb hb)))
    clear xb yb rb hb
    go_wp2_with fail
    refine (D2.out _).mono ?_
    rintro r w2 ⟨rfl, hE⟩
    have xb := HBX.out.1.below hE
    have yb := HBX.out.2.1.below hE
    have rb := HBX.out.2.2.1.below hE
    have hb := HBX.out.2.2.2.trans (Below.mono hE (by have := HBX.out.1.lt; omega))
    clear c0 c1 c2 c3 d0 d1 d2 hE
    have c0 := xb.c0
    have c1 := xb.c1
    have c2 := xb.c2
    have c3 := xb.c3
    have d0 := yb.c0
    have d1 := yb.c1
    have d2 := yb.c2
    have q0 := rb.c0
    have q1 := rb.c1
    have q2 := rb.c2
    have q3 := rb.c3
    have p0 := rb.f 0
    have p1 := rb.f 1
    have p2 := rb.f 2
    have p3 := rb.f 3
    obtain ⟨E, hE⟩ : ∃ E, ex - i - (ey - j) - 64 = E := ⟨_, rfl⟩
    have hE0 : -1000000500 * 2 ≤ E ∧ E ≤ 1000000500 * 2 := by omega
    cases tx with
    | true =>
      have z := rb.stored Q1 Q0 E true
      have z0 := z.c0
      have z1 := z.c1
      have z2 := z.c2
      have z3 := z.c3
      have B1 := Lib.hid (hb.trans ((only_nset4 w2 (B + 1 + 1) (.int .u64 Q1) (.int .u64 Q0) (.int .i64 E) (.bool true)).below (B := B) (by omega)))
      have HE := Lib.hid hE
      clear z xb yb rb hb HBX
      go_wp2
      refine bodyPost_ret (v := .agg #[.int .u64 Q1, .int .u64 Q0, .int .i64 E, .bool true]) (by simp [results, Tryz.results72, go_sem, z0, z1, z2, z3]) rfl ⟨X1, X0, i, Y1, j, HQF.out, ?_, ?_⟩
      · obtain ⟨f1, f2, f3, f4⟩ := HQR.out
        rw [f1, f2, f3, f4, HE.out]
        rfl
      · show Below _ _ _
        rw [HBe.out]
        exact B1.out
    | false =>
      by_cases hR : R0 = 0
      · have hr : ((R0 : Int) != 0) = false := by simp [hR]
        have HRR := Lib.hid (show decide (R0 ≠ 0) = false by simp [hR])
        clear hR
        have z := rb.stored Q1 Q0 E false
        have z0 := z.c0
        have z1 := z.c1
        have z2 := z.c2
        have z3 := z.c3
        have B1 := Lib.hid (hb.trans ((only_nset4 w2 (B + 1 + 1) (.int .u64 Q1) (.int .u64 Q0) (.int .i64 E) (.bool false)).below (B := B) (by omega)))
        have HE := Lib.hid hE
        clear z xb yb rb hb HBX
        go_wp2
        refine bodyPost_ret (v := .agg #[.int .u64 Q1, .int .u64 Q0, .int .i64 E, .bool false]) (by simp [results, Tryz.results72, go_sem, z0, z1, z2, z3]) rfl ⟨X1, X0, i, Y1, j, HQF.out, ?_, ?_⟩
        · obtain ⟨f1, f2, f3, f4⟩ := HQR.out
          rw [f1, f2, f3, f4, HE.out, HRR.out]
          rfl
        · show Below _ _ _
          rw [HBe.out]
          exact B1.out
      · have hr : ((R0 : Int) != 0) = true := by simp; omega
        have HRR := Lib.hid (show decide (R0 ≠ 0) = true by simp [hR])
        clear hR
        have z := rb.stored Q1 Q0 E true
        have z0 := z.c0
        have z1 := z.c1
        have z2 := z.c2
        have z3 := z.c3
        have B1 := Lib.hid (hb.trans ((only_nset4 w2 (B + 1 + 1) (.int .u64 Q1) (.int .u64 Q0) (.int .i64 E) (.bool true)).below (B := B) (by omega)))
        have HE := Lib.hid hE
        clear z xb yb rb hb HBX
        go_wp2
        refine bodyPost_ret (v := .agg #[.int .u64 Q1, .int .u64 Q0, .int .i64 E, .bool true]) (by simp [results, Tryz.results72, go_sem, z0, z1, z2, z3]) rfl ⟨X1, X0, i, Y1, j, HQF.out, ?_, ?_⟩
        · obtain ⟨f1, f2, f3, f4⟩ := HQR.out
          rw [f1, f2, f3, f4, HE.out, HRR.out]
          rfl
        · show Below _ _ _
          rw [HBe.out]
          exact B1.out

end Go.Proofs.YtolghagbpnjpgaaGreatDoor

namespace Go.Proofs.YtolghagbpnjpgaaGreatDoor
open Go.RowKit

theorem shift_unique {N i : Nat} (h0 : N ≠ 0) (h1 : 2 ^ 127 ≤ N * 2 ^ i) (h2 : N * 2 ^ i < 2 ^ 128) : i = 127 - Nat.log2 N := by
  have h3 := log2_of h1 h2
  rw [log2_shift h0] at h3
  omega

end Go.Proofs.YtolghagbpnjpgaaGreatDoor

namespace Go.Proofs.YtolghagbpnjpgaaGreatDoor

/-- the value of a number with its sign -/
def vs (S : Int) (e : Int) (T : Nat) : Int := S * 2 ^ (e + T).toNat
/-- .. of a float -/
def fs (f T : Nat) : Int := if fneg f then -(fu (fmag f) T : Int) else (fu (fmag f) T : Int)

theorem rnd_sgz (S e mode : Int) : rnd S e mode = sgz (decide (S < 0)) + fla (decide (S < 0)) S.natAbs e false mode := rfl
/-- a dyad's number rounded: zero is +0 -/
def rz (S e mode : Int) : Nat := if S = 0 then 0 else rnd S e mode
/-- downward and upward: on both sides, the same or next to one another, and to nearest is one of them -/
structure Enc (S e : Int) (T lo hi near : Nat) : Prop where
  fl : finB lo = true → fs lo T ≤ vs S e T
  fh : finB hi = true → vs S e T ≤ fs hi T
  loi : finB lo = false → lo = 18442240474082181120
  hii : finB hi = false → hi = 9218868437227405312
  same : (finB lo = true ∧ fs lo T = vs S e T ∨ finB hi = true ∧ fs hi T = vs S e T) → lo = hi ∧ near = lo
  next : (finB lo = true → fs lo T ≠ vs S e T) → (finB hi = true → fs hi T ≠ vs S e T) → frank hi = frank lo + 1 ∧ (near = lo ∨ near = hi)

end Go.Proofs.YtolghagbpnjpgaaGreatDoor

namespace Go.Proofs.YtolghagbpnjpgaaGreatDoor
open Go.RowKit

/-- a dyad rounded -/
def frdF (d : Dy) (mode : Int) : Nat :=
  match d with
  | none => 9221120237041090560
  | some (m, e) => rz m e mode

/-- the first bits and a tail are rounded like the whole -/
theorem fla_cut (neg : Bool) {X j : Nat} {e : Int} (mode : Int) {N : Nat} {T : Bool} (hN : N = X / 2 ^ j) (hT : T = decide (X % 2 ^ j ≠ 0)) (h53 : T = true → 2 ^ 53 ≤ N) (h0 : N ≠ 0) : fla neg N (e + j) T mode = fla neg X e false mode := by
  cases T with
  | true =>
    have := fla_tail neg (N := X) e false mode j (by rw [← hN]; exact h53 rfl)
    rw [Bool.false_or, ← hT, ← hN] at this
    exact this
  | false =>
    have hr : X % 2 ^ j = 0 := by simpa using hT
    have hm := Nat.div_add_mod X (2 ^ j)
    rw [hr, ← hN, Nat.add_zero, Nat.mul_comm] at hm
    exact fla_eq neg (a := j) (b := 0) mode h0 (by rw [hm, Nat.pow_zero, Nat.mul_one]) (by omega)

set_option maxRecDepth 100000 in
theorem signOfDyad_any (bb nb : Bool) (ao : Option Addr) (n ca : Nat) (f : Int) (w : World) :
    Calls Tryz.prog 85 #[.agg #[.bool bb, .bool nb, .slice ao n ca, .int .i64 f]] w fun e w' => e = .returned (.int .u64 ((sgz nb : Nat) : Int)) ∧ Ext w w' := by
  cases nb
  all_goals
    go_enter Tryz.func85, Tryz.ntmps85
    go_upto_region 1 with fail
    first
      | obtain ⟨W, hW, hB, hx, hz⟩ := dbox_new w bb false ao n ca f; rw [← hW]; clear hW
      | obtain ⟨W, hW, hB, hx, hz⟩ := dbox_new w bb true ao n ca f; rw [← hW]; clear hW
    have HB := Lib.hid (show Ext w W from hB)
    clear hB
    generalize w.heap.size = B at *
    have c1 := hx.c1
    go_wp2
    go_ret
    exact ⟨rfl, HB.out⟩

theorem Dg.parts {w : World} {v : Value} {d : Dy} (h : Dg w v d) : ∃ bb nb ao n ca f, v = .agg #[.bool bb, .bool nb, .slice ao n ca, .int .i64 f] := by
  obtain ⟨bb, nb, ao, n, ca, x, f, h1, h2⟩ := h
  exact ⟨_, _, _, _, _, _, h1⟩

/-- round, of what leading gives -/
theorem fround_rz {m e : Int} {H L : Nat} {E : Int} {T : Bool} {j : Nat} {nn : Bool} (hH : H < 18446744073709551616) (hL : L < 18446744073709551616) (hV : H * 18446744073709551616 + L = m.natAbs / 2 ^ j) (h0 : H * 18446744073709551616 + L ≠ 0) (hE : E = e + j) (hTT : T = decide (m.natAbs % 2 ^ j ≠ 0)) (h53 : T = true → 2 ^ 53 ≤ H * 18446744073709551616 + L) (hj : j ≤ 3200000)
    (he0 : -65536 ≤ e) (he1 : e ≤ 65536) (hnn : nn = decide (m < 0)) (hm : m ≠ 0) (mode : Int) (w : World) :
    Calls Tryz.prog 74 #[.agg #[.int .u64 (H : Int), .int .u64 (L : Int), .int .i64 E, .bool T], .int .u64 ((sgz nn : Nat) : Int), .int .i64 mode] w fun r w' => r = .returned (.int .u64 ((rz m e mode : Nat) : Int)) ∧ Ext w w' := by
  refine (fround_any H L E T nn mode hH hL h0 h53 (by omega) (by omega) w).mono fun r w' ⟨hr, hw⟩ => ⟨?_, hw⟩
  rw [hr, hE, fla_cut nn mode hV hTT h53 h0]
  unfold rz
  rw [if_neg hm, rnd_sgz, hnn]

set_option maxRecDepth 100000 in
set_option maxHeartbeats 4000000 in
theorem frd_none (v : Value) (mode : Int) (w : World) (hv : Dg w v none) (hT : Table w) :
    Calls Tryz.prog 21 #[v, .int .i64 mode] w fun r w' => r = .returned (.int .u64 9221120237041090560) ∧ Ext w w' := by
  obtain ⟨vb, vn, vo, vk, vc, ve, rfl⟩ := hv.parts
  have HT := Lib.hid hT
  clear hT
  go_enter Tryz.func21, Tryz.ntmps21
  go_upto_region 1 with fail
  obtain ⟨W, hW, hB, hx, hz⟩ := dbox_new w vb vn vo vk vc ve
  rw [← hW]
  clear hW
  have hd := hv.ext (show Ext w W from hB)
  have hTW := HT.out.below hB
  generalize hBe : w.heap.size = B at *
  have HBe := Lib.hid hBe
  clear hBe hv
  have c0 := hx.c0
  have c1 := hx.c1
  have c2 := hx.c2
  have c3 := hx.c3
  have HD := Lib.hid hd
  have HTW := Lib.hid hTW
  clear hd hTW
  go_wp2_with fail
  refine (dnorm_any _ _ _ HD.out HTW.out).mono ?_
  rintro r w1 ⟨v1, rfl, hd, hE⟩
  obtain ⟨nb, nn, no, nk, nc, ne, rfl⟩ := hd.parts
  obtain ⟨h1, h2, h3⟩ := hd.get
  obtain rfl : nb = true := h1
  have x1 := hx.below hE
  have b1 : Below B w w1 := hB.trans (Below.mono hE (by omega))
  clear c0 c1 c2 c3 hx hB hE
  have g0 := x1.f 0
  have g1 := x1.f 1
  have g2 := x1.f 2
  have g3 := x1.f 3
  have c0 := x1.c0
  have c1 := x1.c1
  have c2 := x1.c2
  have c3 := x1.c3
  clear hd h2 h3
  go_upto_region 2 with fail
  have ho := only_set4 w1 B (.bool true) (.bool nn) (.slice no nk nc) (.int .i64 ne)
  have x2 := x1.stored true nn no nk nc ne
  have b2 := b1.trans (ho.below (B := B) (Nat.le_refl _))
  generalize (((w1.setCell ⟨B, 0, none⟩ (.bool true)).setCell ⟨B, 1, none⟩ (.bool nn)).setCell ⟨B, 2, none⟩ (.slice no nk nc)).setCell ⟨B, 3, none⟩ (.int .i64 ne) = W2 at *
  clear c0 c1 c2 c3 g0 g1 g2 g3 x1 b1 ho
  have c0 := x2.c0
  have B2 := Lib.hid b2
  clear b2
  go_wp2
  go_ret
  refine ⟨rfl, ?_⟩
  show Below _ _ _
  rw [HBe.out]
  exact B2.out

set_option maxRecDepth 100000 in
set_option maxHeartbeats 4000000 in
theorem frd_some (v : Value) (m e mode : Int) (w : World) (hv : Dg w v (some (m, e))) (hT : Table w) :
    Calls Tryz.prog 21 #[v, .int .i64 mode] w fun r w' => r = .returned (.int .u64 ((rz m e mode : Nat) : Int)) ∧ Ext w w' := by
  obtain ⟨vb, vn, vo, vk, vc, ve, rfl⟩ := hv.parts
  have HT := Lib.hid hT
  clear hT
  go_enter Tryz.func21, Tryz.ntmps21
  go_upto_region 1 with fail
  obtain ⟨W, hW, hB, hx, hz⟩ := dbox_new w vb vn vo vk vc ve
  rw [← hW]
  clear hW
  have hd := hv.ext (show Ext w W from hB)
  have hTW := HT.out.below hB
  generalize hBe : w.heap.size = B at *
  have HBe := Lib.hid hBe
  clear hBe hv
  have c0 := hx.c0
  have c1 := hx.c1
  have c2 := hx.c2
  have c3 := hx.c3
  have HD := Lib.hid hd
  have HTW := Lib.hid hTW
  clear hd hTW
  go_wp2_with fail
  refine (dnorm_any _ _ _ HD.out HTW.out).mono ?_
  rintro r w1 ⟨v1, rfl, hd, hE⟩
  obtain ⟨nb, nn, no, nk, nc, ne, rfl⟩ := hd.parts
  obtain ⟨h1, h2, h3⟩ := hd.get
  obtain rfl : nb = false := h1
  have x1 := hx.below hE
  have b1 : Below B w w1 := hB.trans (Below.mono hE (by omega))
  clear c0 c1 c2 c3 hx hB hE
  have g0 := x1.f 0
  have g1 := x1.f 1
  have g2 := x1.f 2
  have g3 := x1.f 3
  have c0 := x1.c0
  have c1 := x1.c1
  have c2 := x1.c2
  have c3 := x1.c3
  obtain rfl : ne = e := h2
  have hbn : Bn w1 nn no nk nc m := h3
  have hnd : Nd (some (m, ne)) := hd.1
  have HNN := Lib.hid hbn.neg
  clear hd h3
  go_upto_region 2 with fail
  have hsl := hbn.sl
  have ho := only_set4 w1 B (.bool false) (.bool nn) (.slice no nk nc) (.int .i64 ne)
  have x2 := x1.stored false nn no nk nc ne
  have s2 := hsl.only_dbox x1 ho
  have n2 := hbn.only_dbox x1 ho
  have b2 := b1.trans (ho.below (B := B) (Nat.le_refl _))
  generalize (((w1.setCell ⟨B, 0, none⟩ (.bool false)).setCell ⟨B, 1, none⟩ (.bool nn)).setCell ⟨B, 2, none⟩ (.slice no nk nc)).setCell ⟨B, 3, none⟩ (.int .i64 ne) = W2 at *
  clear c0 c1 c2 c3 g0 g1 g2 g3 x1 b1 ho hsl hbn
  have hnk : nk ≤ 4096 := by
    rw [← s2.len]
    have h4 := (nd_blen hnd).1
    exact limbs_of_blen (a := m.natAbs) (k := 4096) (show blen m.natAbs ≤ 131072 from h4)
  have hne := (nd_blen hnd).2
  have hne0 : -65536 ≤ ne := hne.1
  have hne1 : ne ≤ 65536 := hne.2
  clear hne
  have CS := Lib.hid (fun wx (h : Ext W2 wx) => sign_any nn no nk nc m wx ((n2.below h).bg (by omega)))
  have CG := Lib.hid (signOfDyad_any false nn no nk nc ne)
  have hcells : ∀ wx, Ext W2 wx → (wx.cell? ⟨B, 0, none⟩ = some (.bool false) ∧ wx.cell? ⟨B, 1, none⟩ = some (.bool nn) ∧ wx.cell? ⟨B, 2, none⟩ = some (.slice no nk nc) ∧ wx.cell? ⟨B, 3, none⟩ = some (.int .i64 ne)) := fun wx h => ⟨(x2.ext h).c0, (x2.ext h).c1, (x2.ext h).c2, (x2.ext h).c3⟩
  have HC := Lib.hid hcells
  have B2 := Lib.hid (And.intro b2 x2.lt)
  have HND := Lib.hid hnd
  have S2 := Lib.hid s2
  clear hcells s2 n2 x2 b2 hnd
  obtain ⟨c0, c1, c2, c3⟩ := HC.out W2 (Ext.refl _)
  by_cases hm : m = 0
  · have v1 : sgn3 m 0 = 0 := by rw [hm]; decide
    go_wp2_with fail
    refine (CS.out _ (Ext.refl _)).mono ?_
    rintro r w3 ⟨rfl, hE⟩
    have E3 : Ext W2 w3 := hE
    clear c0 c1 c2 c3 hE
    go_wp2
    go_ret
    refine ⟨by unfold rz; rw [if_pos hm]; rfl, ?_⟩
    show Below _ _ _
    rw [HBe.out]
    exact B2.out.1.trans (Below.mono E3 (by have := B2.out.2; omega))
  · have hodd : m.natAbs % 2 = 1 := by
      rcases HND.out with ⟨h, _⟩ | ⟨h, _⟩
      · exact absurd h hm
      · exact h
    have v1 : (sgn3 m 0 == 0) = false := by rw [beq_eq_false_iff_ne]; unfold sgn3; split <;> (try split) <;> omega
    have CL := Lib.hid (fun wx (h : Ext W2 wx) => flead_any no nk nc m.natAbs ne wx (S2.out.below h) hodd (by omega) (by omega) (by omega))
    have CR := Lib.hid (fun (H L : Nat) (E : Int) (T : Bool) (j : Nat) (hH : H < 18446744073709551616) (hL : L < 18446744073709551616) (hV : H * 18446744073709551616 + L = m.natAbs / 2 ^ j) (h0 : H * 18446744073709551616 + L ≠ 0) (hE : E = ne + j) (hTT : T = decide (m.natAbs % 2 ^ j ≠ 0)) (h53 : T = true → 2 ^ 53 ≤ H * 18446744073709551616 + L) (hj : j ≤ 3200000) (wx : World) =>
      fround_rz (m := m) (e := ne) hH hL hV h0 hE hTT h53 hj (by omega) (by omega) HNN.out hm mode wx)
    clear hodd
    go_wp2_with fail
    refine (CS.out _ (Ext.refl _)).mono ?_
    rintro r w3 ⟨rfl, hE⟩
    have E3 : Ext W2 w3 := hE
    clear c0 c1 c2 c3 hE
    obtain ⟨c0, c1, c2, c3⟩ := HC.out w3 E3
    go_upto_region 6 with fail
    clear v1
    have e0 : Ext W2 w3.drew := Ext.trans E3 ((Below.refl _ _).drew)
    go_region_held3 (fun wx => wx.cell? ⟨B, 0, none⟩ = some (.bool false) ∧ wx.cell? ⟨B, 1, none⟩ = some (.bool nn) ∧ wx.cell? ⟨B, 2, none⟩ = some (.slice no nk nc) ∧ wx.cell? ⟨B, 3, none⟩ = some (.int .i64 ne))
      (first | exact HC.out _ (by assumption))
      (first
        | (go_at_call 84; refine (CL.out _ (by assumption)).mono ?_; rintro e wn ⟨H, L, E, T, j, rfl, hH, hL, hV, h0, hE, hTT, h53, hj, hE1⟩; have CR := Lib.hid (CR.out H L E T j hH hL hV h0 hE hTT h53 hj); clear hV h0 hE hTT h53 hj; have e1 : Ext W2 wn := Ext.trans (by assumption) hE1)
        | (go_at_call 85; refine (CG.out _).mono ?_; rintro e wn ⟨rfl, hE1⟩; have e1 : Ext W2 wn := Ext.trans (by assumption) hE1)
        | (go_at_call 74; refine (CR.out _).mono ?_; rintro e wn ⟨rfl, hE1⟩; have e1 : Ext W2 wn := Ext.trans (by assumption) hE1))
    all_goals
      have EF : Ext W2 wn := by assumption
      go_wp2
      go_ret
      refine ⟨rfl, ?_⟩
      show Below _ _ _
      rw [HBe.out]
      exact B2.out.1.trans (Below.mono EF (by have := B2.out.2; omega))

theorem frd_any (v : Value) (d : Dy) (mode : Int) (w : World) (hv : Dg w v d) (hT : Table w) :
    Calls Tryz.prog 21 #[v, .int .i64 mode] w fun r w' => r = .returned (.int .u64 ((frdF d mode : Nat) : Int)) ∧ Ext w w' := by
  cases d with
  | none => exact frd_none v mode w hv hT
  | some p => exact frd_some v p.1 p.2 mode w hv hT
end Go.Proofs.YtolghagbpnjpgaaGreatDoor

namespace Go.Proofs.YtolghagbpnjpgaaGreatDoor
open Go.RowKit

theorem Box.ext' {w w' : World} {g : Nat} {nb : Bool} {ao : Option Addr} {n ca : Nat} (h : Box w g nb ao n ca) (he : Ext w w') : Box w' g nb ao n ca := h.below he
theorem Bg.ext {w w' : World} {nb : Bool} {ao : Option Addr} {n ca : Nat} {x : Int} (h : Bg w nb ao n ca x) (he : Ext w w') : Bg w' nb ao n ca x := h.below he

end Go.Proofs.YtolghagbpnjpgaaGreatDoor

namespace Go.Proofs.YtolghagbpnjpgaaGreatDoor
open Go.RowKit

/-- x times 2^s, rounded down -/
def shf (x s : Int) : Int := if 0 ≤ s then x * 2 ^ s.toNat else x / 2 ^ (-s).toNat

theorem shift_any (nb : Bool) (ao : Option Addr) (n cap : Nat) (x s : Int) (w : World) (h : Bg w nb ao n cap x) (h0 : -1000000 ≤ s) (h1 : s ≤ 1000000) (hT : Table w) :
    Calls Tryz.prog 157 #[.agg #[.bool nb, .slice ao n cap], .int .i64 s] w fun e w' => ∃ nr ro l cr, e = .returned (.tuple #[.agg #[.bool nr, .slice ro l cr], .int .i64 0]) ∧ Bn w' nr ro l cr (shf x s) ∧ Below w.heap.size w w' := by
  unfold shf
  by_cases hs : 0 ≤ s
  · rw [if_pos hs]
    have := shift_left nb ao n cap x s.toNat w h (by omega)
    rwa [Int.toNat_of_nonneg hs] at this
  · rw [if_neg hs]
    have := shift_down0 nb ao n cap x (-s).toNat w h (by omega) hT
    rwa [Int.toNat_of_nonneg (by omega), Int.neg_neg] at this

theorem blen_shf (x s : Int) : blen (shf x s).natAbs ≤ blen x.natAbs + s.toNat := by
  unfold shf
  split
  · by_cases h : x = 0
    · subst h; simp [blen]
    · rw [natAbs_shift, blen_mul (by omega)]; exact Nat.le_refl _
  · refine Nat.le_trans (blen_le_of_lt (Nat.lt_of_le_of_lt (Int.natAbs_ediv_le_natAbs x _) (blen_lt _))) (by omega)
theorem shf_nonneg {x s : Int} (h : 0 ≤ x) : 0 ≤ shf x s := by
  unfold shf
  split
  · exact Int.mul_nonneg h (Int.le_of_lt (two_pos _))
  · exact Int.ediv_nonneg h (Int.le_of_lt (two_pos _))

theorem bg_abs {w : World} {nb : Bool} {ao : Option Addr} {n ca : Nat} {x : Int} (h : Bg w nb ao n ca x) : Bg w false ao n ca x.natAbs := by
  obtain ⟨⟨zs, hs, hx⟩, hsm⟩ := h
  refine ⟨⟨zs, hs, ?_⟩, hsm⟩
  rw [hx, sgd_natAbs hs.wf]
  have := num_nonneg hs.wf
  simp [sgd]
  omega
end Go.Proofs.YtolghagbpnjpgaaGreatDoor

namespace Go.Proofs.YtolghagbpnjpgaaGreatDoor
open Go.RowKit

theorem Dn.num {w : World} {bb nb : Bool} {ao : Option Addr} {n ca : Nat} {f : Int} {d : Dy} (h : Dn w (.agg #[.bool bb, .bool nb, .slice ao n ca, .int .i64 f]) d) : bb = d.isNone ∧ f = dx d ∧ Bn w nb ao n ca (dm d) := h.get

end Go.Proofs.YtolghagbpnjpgaaGreatDoor

namespace Go.Proofs.YtolghagbpnjpgaaGreatDoor
open Go.RowKit

theorem dn_lit {w : World} {nb : Bool} {ao : Option Addr} {n ca : Nat} {m f : Int} (h : Bn w nb ao n ca m) (h0 : Nd (some (m, f))) : Dn w (.agg #[.bool false, .bool nb, .slice ao n ca, .int .i64 f]) (some (m, f)) := ⟨h0, nb, ao, n, ca, rfl, h⟩

end Go.Proofs.YtolghagbpnjpgaaGreatDoor

namespace Go.Proofs.YtolghagbpnjpgaaGreatDoor

/-- the multiples of 2^(k+1) around x, which is none of them -/
structure Around (x : Int) (p k : Nat) (q r : Int) : Prop where
  eq : x = q * 2 ^ (k + 1) + r
  pos : 0 < r
  lt : r < 2 ^ (k + 1)
  lo : -2 ^ p ≤ q
  hi : q + 1 ≤ 2 ^ p

end Go.Proofs.YtolghagbpnjpgaaGreatDoor

namespace Go.Proofs.YtolghagbpnjpgaaGreatDoor
open Go.RowKit

/-- a value, the dyad that it reads as, is it normalized -/
structure DEnt where
  v : Value
  d : Dy
  c : Bool

def DEnt.Ok (w : World) (p : DEnt) : Prop := Dg w p.v p.d ∧ (p.c = true → Dn w p.v p.d)

theorem DEnt.Ok.ext {w w' : World} {p : DEnt} (h : p.Ok w) (he : Ext w w') : p.Ok w' := ⟨h.1.ext he, fun e => (h.2 e).ext he⟩
/-- what is at hand -/
structure DSt (W w : World) (L : List DEnt) : Prop where
  ext : Ext W w
  tab : Table w
  bag : ∀ p ∈ L, p.Ok w

theorem DSt.step {W w w' : World} {L : List DEnt} (h : DSt W w L) (he : Ext w w') : DSt W w' L := ⟨h.ext.trans he, h.tab.below he, fun p hp => (h.bag p hp).ext he⟩
theorem DSt.drew {W w : World} {L : List DEnt} (h : DSt W w L) : DSt W w.drew L := h.step (Below.refl _ _).drew
theorem DSt.alloc {W w : World} {L : List DEnt} (h : DSt W w L) (o : Obj) : DSt W (w.alloc o) L := h.step ((Below.refl _ w).alloc (Nat.le_refl _) o)
theorem DSt.dn {W w : World} {L : List DEnt} {v : Value} {d : Dy} (h : DSt W w L) (h1 : ⟨v, d, true⟩ ∈ L) : Dn w v d := (h.bag _ h1).2 rfl

section
variable {W w : World} {L : List DEnt} {u v : Value} {d d' : Dy} {c c' : Bool}

end
end Go.Proofs.YtolghagbpnjpgaaGreatDoor
