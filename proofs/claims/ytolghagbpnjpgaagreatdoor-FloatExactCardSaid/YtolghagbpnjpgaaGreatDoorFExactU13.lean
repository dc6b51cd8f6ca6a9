import Derived.Test.YtolghagbpnjpgaaGreatDoorFExactU12
import Derived.Test.YtolghagbpnjpgaaGreatDoorFExactU3
namespace Go.Proofs.YtolghagbpnjpgaaGreatDoor
open Go.RowKit

def faddF (a b : Nat) (mode : Int) : Nat := fmaF a 4607182418800017408 b mode
def fmulF (a b : Nat) (mode : Int) : Nat := fmaF a b (sgz (fneg a != fneg b)) mode

set_option maxRecDepth 100000 in
theorem fadd_any (a b : Nat) (mode : Int) (ha : a < 18446744073709551616) (hb : b < 18446744073709551616) (w : World) :
    Calls Tryz.prog 7 #[.int .u64 (a : Int), .int .u64 (b : Int), .int .i64 mode] w fun r w' => r = .returned (.int .u64 ((faddF a b mode : Nat) : Int)) ∧ Ext w w' := by
  unfold faddF
  have C := ffma_any a 4607182418800017408 b mode ha (by omega) hb
  generalize fmaF a 4607182418800017408 b mode = R at *
  rw [show ((4607182418800017408 : Nat) : Int) = 4607182418800017408 from rfl] at C
  have C := Lib.hid C
  go_enter Tryz.func7, Tryz.ntmps7
  go_wp2_with fail
  refine (C.out _).mono ?_
  rintro r w1 ⟨rfl, hE⟩
  go_wp2
  go_ret
  exact ⟨rfl, hE⟩

set_option maxRecDepth 100000 in
theorem fmul_any (a b : Nat) (mode : Int) (ha : a < 18446744073709551616) (hb : b < 18446744073709551616) (w : World) :
    Calls Tryz.prog 11 #[.int .u64 (a : Int), .int .u64 (b : Int), .int .i64 mode] w fun r w' => r = .returned (.int .u64 ((fmulF a b mode : Nat) : Int)) ∧ Ext w w' := by
  unfold fmulF
  have hx : a ^^^ b < 18446744073709551616 := Nat.xor_lt_two_pow (n := 64) (by omega) (by omega)
  have h1 := bits_xor_u64_nat a b ha hb
  have CS := signOf_any (a ^^^ b) hx
  rw [fneg_xor ha hb] at CS
  have C := ffma_any a b (sgz (fneg a != fneg b)) mode ha hb (by have := sgz_le (fneg a != fneg b); omega)
  generalize a ^^^ b = x at *
  generalize fmaF a b (sgz (fneg a != fneg b)) mode = R at *
  generalize sgz (fneg a != fneg b) = z at *
  have C := Lib.hid C
  have CS := Lib.hid CS
  go_enter Tryz.func11, Tryz.ntmps11
  go_wp2_with fail
  refine (CS.out _).mono ?_
  rintro r w1 ⟨rfl, rfl⟩
  go_wp2_with fail
  refine (C.out _).mono ?_
  rintro r w1 ⟨rfl, hE⟩
  go_wp2
  go_ret
  exact ⟨rfl, hE⟩

set_option maxRecDepth 100000 in
set_option maxHeartbeats 1000000 in
theorem div64_zero (lo y : Nat) (hl : lo < 18446744073709551616) (hy : y < 18446744073709551616) (hy0 : y ≠ 0) (w : World) :
    Calls Tryz.prog 135 #[.int .u64 0, .int .u64 (lo : Int), .int .u64 (y : Int)] w fun r w' => r = .returned (.tuple #[.int .u64 ((lo / y : Nat) : Int), .int .u64 ((lo % y : Nat) : Int)]) ∧ Ext w w' := by
  have h0 : ((y : Int) == 0) = false := by rw [beq_eq_false_iff_ne]; omega
  have h1 : ¬ (y : Int) ≤ 0 := by omega
  have h2 : (0 : Int) < (y : Int) := by omega
  have q1 : (lo : Int) / (y : Int) = ((lo / y : Nat) : Int) := (Int.natCast_ediv lo y).symm
  have q2 : (lo : Int) % (y : Int) = ((lo % y : Nat) : Int) := (Int.natCast_emod lo y).symm
  have q3 : (lo : Int).tdiv (y : Int) = ((lo / y : Nat) : Int) := by rw [Int.tdiv_eq_ediv_of_nonneg (by omega), q1]
  have q4 : (lo : Int).tmod (y : Int) = ((lo % y : Nat) : Int) := by rw [Int.tmod_eq_emod_of_nonneg (by omega), q2]
  have hb : lo / y < 18446744073709551616 := Nat.lt_of_le_of_lt (Nat.div_le_self _ _) hl
  have q5 : IntKind.u64.wrap ((lo / y : Nat) : Int) = ((lo / y : Nat) : Int) := wrap_nat hb
  generalize lo / y = q at *
  generalize lo % y = r at *
  clear hl hy hy0
  go_enter Tryz.func135, Tryz.ntmps135
  go_upto_region 6 with fail
  go_quiet (fail)
  go_wp2
  go_ret2
  exact ⟨rfl, below_drewN (Below.refl _ _) _⟩

set_option maxRecDepth 100000 in
theorem fnormal_one (e : Int) (he0 : -100000 ≤ e) (he1 : e ≤ 100000) (w : World) :
    Calls Tryz.prog 134 #[.agg #[.int .u64 0, .int .u64 4503599627370496, .int .i64 e, .bool false]] w fun r w' => r = .returned (.agg #[.int .u64 9223372036854775808, .int .u64 0, .int .i64 (e - 75), .bool false]) ∧ Ext w w' := by
  have := fnormal_lo 4503599627370496 11 e false (by decide) (by decide) (by omega) (by omega) (by omega) w
  rw [show e - 64 - ((11 : Nat) : Int) = e - 75 by omega] at this
  exact this

set_option maxRecDepth 100000 in
set_option maxHeartbeats 4000000 in
theorem fquot_one (ex ey : Int) (ex0 : -1000 ≤ ex) (ex1 : ex ≤ 1000) (ey0 : -1000 ≤ ey) (ey1 : ey ≤ 1000) (w : World) :
    Calls Tryz.prog 72 #[.agg #[.int .u64 0, .int .u64 4503599627370496, .int .i64 ex, .bool false], .agg #[.int .u64 0, .int .u64 4503599627370496, .int .i64 ey, .bool false]] w fun r w' => r = .returned (.agg #[.int .u64 1, .int .u64 0, .int .i64 (ex - 75 - (ey - 75) - 64), .bool false]) ∧ Ext w w' := by
  have CX := Lib.hid (fnormal_one ex (by omega) (by omega))
  have CY := Lib.hid (fnormal_one ey (by omega) (by omega))
  have D1 := Lib.hid (fun w => div64_zero 9223372036854775808 9223372036854775808 (by omega) (by omega) (by omega) w)
  have D2 := Lib.hid (fun w => div64_zero 0 9223372036854775808 (by omega) (by omega) (by omega) w)
  go_enter Tryz.func72, Tryz.ntmps72
  go_upto_region 1 with fail
  obtain ⟨W, hW, hB, hbx, hby, hbr, hz⟩ := boxes_nnn w 0 4503599627370496 ex false 0 4503599627370496 ey false 0 0 0 false
  rw [← hW]
  clear hW
  generalize hBe : w.heap.size = B at *
  have HBe := Lib.hid hBe
  clear hBe
  go_cut [] from 8 (fun wx => NBox wx B 9223372036854775808 0 (ex - 75) false ∧ NBox wx (B + 1) 9223372036854775808 0 (ey - 75) false ∧ NBox wx (B + 1 + 1) 0 0 0 false ∧ Below B w wx)
  case first =>
    have k0 := hbx.c0
    have k1 := hbx.c1
    have k2 := hbx.c2
    have k3 := hbx.c3
    have l0 := hby.c0
    have l1 := hby.c1
    have l2 := hby.c2
    have l3 := hby.c3
    have TAG1 := Lib.hid True.intro
    go_region_with (first
      | (go_at_call 134; clear TAG1; (with_reducible refine (CX.out _).mono ?_); rintro r1 w1 ⟨rfl, hw1⟩; have ex1 : Below W.heap.size W w1 := (Below.refl _ _).drew.trans hw1; have fb := hby.below ex1; have m0 := fb.c0; have m1 := fb.c1; have m2 := fb.c2; have m3 := fb.c3)
      | (go_at_call 134; (with_reducible refine (CY.out _).mono ?_); rintro r2 w2 ⟨rfl, hw2⟩; clear m0 m1 m2 m3; have ex2 : Below W.heap.size W w2 := ex1.trans (Below.mono hw2 ex1.size); have fa := hbx.below ex2; have fb2 := hby.below ex2; have fr2 := hbr.below ex2; have a0 := fa.c0; have a1 := fa.c1; have a2 := fa.c2; have a3 := fa.c3; have b0 := fb2.c0; have b1 := fb2.c1; have b2 := fb2.c2; have b3 := fb2.c3; have g0 := fa.f 0; have g1 := fa.f 1; have g2 := fa.f 2; have g3 := fa.f 3; have n0 := fb2.f 0; have n1 := fb2.f 1; have n2 := fb2.f 2; have n3 := fb2.f 3))
    all_goals
      go_wp2
      go_meet
    all_goals
      clear a0 a1 a2 a3 b0 b1 b2 b3 g0 g1 g2 g3 n0 n1 n2 n3 k0 k1 k2 k3 l0 l1 l2 l3
      obtain ⟨Z, hZ, z1, z2, z3⟩ := two_nums fa fb2 (hB.trans (Below.mono ex2 (by omega))) 9223372036854775808 0 (ex - 75) 9223372036854775808 0 (ey - 75) false false
      rw [hZ]
      refine ⟨z1, z2, ?_, z3⟩
      rw [← hZ]
      exact (fr2.only (only_nset4 _ _ _ _ _ _) (by omega)).only (only_nset4 _ _ _ _ _ _) (by omega)
  case rest =>
    obtain ⟨xb, yb, rb, hb⟩ := hcut
    clear hbx hby hbr hB hz CX CY
    have c0 := xb.c0
    have c1 := xb.c1
    have c2 := xb.c2
    have c3 := xb.c3
    have d0 := yb.c0
    have d1 := yb.c1
    have d2 := yb.c2
    have HBX := Lib.hid (And.intro xb (And.intro yb (And.intro rb hb)))
    clear xb yb rb hb
    go_wp2_with fail
    refine (D1.out _).mono ?_
    rintro r w1 ⟨rfl, hE⟩
    have xb := HBX.out.1.below hE
    have yb := HBX.out.2.1.below hE
    have rb := HBX.out.2.2.1.below hE
    have hb := HBX.out.2.2.2.trans (Below.mono hE (by have := HBX.out.1.lt; omega))
    clear c0 c1 c2 c3 d0 d1 d2 hE
    have c0 := xb.c0
    have c1 := xb.c1
    have c2 := xb.c2
    have c3 := xb.c3
    have d0 := yb.c0
    have d1 := yb.c1
    have d2 := yb.c2
    have v1 : ((9223372036854775808 / 9223372036854775808 : Nat) : Int) = 1 := rfl
    have v2 : ((9223372036854775808 % 9223372036854775808 : Nat) : Int) = 0 := rfl
    have HBX := Lib.hid (And.intro xb (And.intro yb (And.intro rb hb)))
    clear xb yb rb hb
    go_wp2_with fail
    refine (D2.out _).mono ?_
    rintro r w2 ⟨rfl, hE⟩
    have xb := HBX.out.1.below hE
    have yb := HBX.out.2.1.below hE
    have rb := HBX.out.2.2.1.below hE
    have hb := HBX.out.2.2.2.trans (Below.mono hE (by have := HBX.out.1.lt; omega))
    clear c0 c1 c2 c3 d0 d1 d2 hE
    have v3 : ((0 / 9223372036854775808 : Nat) : Int) = 0 := rfl
    have v4 : ((0 % 9223372036854775808 : Nat) : Int) = 0 := rfl
    have c0 := xb.c0
    have c1 := xb.c1
    have c2 := xb.c2
    have c3 := xb.c3
    have d0 := yb.c0
    have d1 := yb.c1
    have d2 := yb.c2
    have q0 := rb.c0
    have q1 := rb.c1
    have q2 := rb.c2
    have q3 := rb.c3
    have p0 := rb.f 0
    have p1 := rb.f 1
    have p2 := rb.f 2
    have p3 := rb.f 3
    obtain ⟨E, hE⟩ : ∃ E, ex - 75 - (ey - 75) - 64 = E := ⟨_, rfl⟩
    have z := rb.stored 1 0 E false
    have z0 := z.c0
    have z1 := z.c1
    have z2 := z.c2
    have z3 := z.c3
    have B1 := Lib.hid (hb.trans ((only_nset4 w2 (B + 1 + 1) (.int .u64 1) (.int .u64 0) (.int .i64 E) (.bool false)).below (B := B) (by omega)))
    have HE := Lib.hid hE
    clear z xb yb rb hb HBX
    go_wp2
    refine bodyPost_ret (v := .agg #[.int .u64 1, .int .u64 0, .int .i64 E, .bool false]) (by simp [results, Tryz.results72, go_sem, z0, z1, z2, z3]) rfl ⟨by rw [HE.out], ?_⟩
    show Below _ _ _
    rw [HBe.out]
    exact B1.out
end Go.Proofs.YtolghagbpnjpgaaGreatDoor

namespace Go.Proofs.YtolghagbpnjpgaaGreatDoor

theorem fz_one : fz 4607182418800017408 = 2 ^ low74 := by decide +kernel

theorem one_facts : nanB 4607182418800017408 = false ∧ infB 4607182418800017408 = false ∧ zeroB 4607182418800017408 = false ∧ fneg 4607182418800017408 = false := by decide +kernel

end Go.Proofs.YtolghagbpnjpgaaGreatDoor

namespace Go.Proofs.YtolghagbpnjpgaaGreatDoor

theorem zero_not {a : Nat} (hz : zeroB a = true) : nanB a = false ∧ infB a = false ∧ fmag a = 0 ∧ fz a = 0 := by
  have hm : fmag a = 0 := of_decide_eq_true hz
  exact ⟨decide_eq_false (by omega), decide_eq_false (by omega), hm, (fz_zero a).2 hm⟩
theorem inf_not {a : Nat} (hi : infB a = true) : nanB a = false ∧ zeroB a = false := by
  have hm : fmag a = 9218868437227405312 := of_decide_eq_true hi
  exact ⟨decide_eq_false (by omega), decide_eq_false (by omega)⟩
theorem xor_false (b : Bool) : (b != false) = b := by cases b <;> rfl

/-- a sum, written out -/
theorem add_form (a b : Nat) (mode : Int) : fmaF a 4607182418800017408 b mode =
    if nanB a || nanB b then 9221120237041090560
    else if infB a && infB b && decide (b ≠ 9218868437227405312 + sgz (fneg a)) then 9221120237041090560
    else if infB a then 9218868437227405312 + sgz (fneg a)
    else if zeroB a && zeroB b && decide (b ≠ sgz (fneg a)) then cancel mode
    else if infB b || zeroB a then b
    else rsum (sgi (fneg a) (fz a * 2 ^ low74) + sgi (fneg b) (fz b * 2 ^ low74)) (-2148) mode := by
  obtain ⟨o1, o2, o3, o4⟩ := one_facts
  unfold fmaF
  rw [o1, o2, o3, o4, xor_false, fz_one]
  simp only [Bool.or_false]
  by_cases h : infB a = true
  · obtain ⟨h1, h2⟩ := inf_not h
    rw [h, h1, h2]
    simp
  · rw [Bool.not_eq_true] at h
    rw [h]
    simp

end Go.Proofs.YtolghagbpnjpgaaGreatDoor

namespace Go.Proofs.YtolghagbpnjpgaaGreatDoor

/-- is the guess too great? -/
theorem dig_test (u a b d q : Int) : (4294967296 * (u - q * a) + d < q * b) ↔ (u * 4294967296 + d < q * (a * 4294967296 + b)) := by
  have e : q * (a * 4294967296 + b) = (q * a) * 4294967296 + q * b := by rw [Int.mul_add, ← Int.mul_assoc]
  rw [e]
  omega

structure Dig (u a b d : Int) : Prop where
  a0 : 2147483648 ≤ a
  a1 : a < 4294967296
  b0 : 0 ≤ b
  b1 : b < 4294967296
  u0 : 0 ≤ u
  u1 : u < a * 4294967296 + b
  d0 : 0 ≤ d
  d1 : d < 4294967296

/-- the digit -/
def digQ (u a b d : Int) : Int := (u * 4294967296 + d) / (a * 4294967296 + b)
/-- what is left -/
def digR (u a b d : Int) : Int := (u * 4294967296 + d) % (a * 4294967296 + b)

section
variable {u a b d : Int}
theorem Dig.pos (h : Dig u a b d) : 0 < a * 4294967296 + b := by have := h.a0; have := h.b0; omega
theorem Dig.q0 (h : Dig u a b d) : 0 ≤ digQ u a b d := by
  have := h.u0; have := h.d0
  exact Int.ediv_nonneg (by omega) (Int.le_of_lt h.pos)
theorem Dig.q1 (h : Dig u a b d) : digQ u a b d < 4294967296 := by
  have h1 := h.u1; have h2 := h.d1
  refine (Int.ediv_lt_iff_lt_mul h.pos).2 ?_
  omega
theorem Dig.test (h : Dig u a b d) (q r : Int) (hr : r = u - q * a) : (4294967296 * r + d < q * b) ↔ digQ u a b d < q := by
  rw [hr, dig_test, digQ, Int.ediv_lt_iff_lt_mul h.pos]
theorem Dig.start (h : Dig u a b d) : digQ u a b d ≤ u / a ∧ u / a ≤ 4294967297 ∧ 0 ≤ u / a ∧ u - u / a * a = u % a ∧ 0 ≤ u % a ∧ u % a < a := by
  have a0 := h.a0; have a1 := h.a1; have b0 := h.b0; have b1 := h.b1; have u0 := h.u0; have u1 := h.u1; have d0 := h.d0; have d1 := h.d1
  have e := Int.mul_ediv_add_emod u a
  have r0 := Int.emod_nonneg u (show a ≠ 0 by omega)
  have r1 := Int.emod_lt_of_pos u (show 0 < a by omega)
  have q0 : 0 ≤ u / a := Int.ediv_nonneg u0 (by omega)
  refine ⟨?_, ?_, q0, by rw [Int.mul_comm]; omega, r0, r1⟩
  · have h1 : digQ u a b d < u / a + 1 := by
      refine (Int.ediv_lt_iff_lt_mul h.pos).2 ?_
      have e2 : (u / a + 1) * (a * 4294967296 + b) = (a * (u / a) + a) * 4294967296 + (u / a + 1) * b := by
        rw [Int.mul_add, ← Int.mul_assoc, Int.add_mul (u / a) 1 a, Int.one_mul, Int.mul_comm (u / a) a]
      have e3 : 0 ≤ (u / a + 1) * b := Int.mul_nonneg (by omega) b0
      rw [e2]
      omega
    omega
  · have h1 : u / a < 4294967298 := by
      refine (Int.ediv_lt_iff_lt_mul (by omega)).2 ?_
      omega
    omega
theorem Dig.stop (h : Dig u a b d) (q r : Int) (hr : r = u - q * a) (hq : q ≤ 4294967296) (hge : 4294967296 ≤ r) : ¬ digQ u a b d < q := by
  rw [← h.test q r hr]
  have b0 := h.b0; have b1 := h.b1; have d0 := h.d0
  have h1 : q * b ≤ 4294967296 * b := Int.mul_le_mul_of_nonneg_right hq b0
  omega
/-- the guess less one -/
theorem dig_next {q r : Int} (hr : r = u - q * a) : r + a = u - (q - 1) * a := by
  rw [Int.sub_mul, Int.one_mul]; omega
theorem Dig.prod (h : Dig u a b d) {q : Int} (q0 : 0 ≤ q) (q1 : q < 4294967296) : 0 ≤ q * b ∧ q * b < 18446744073709551616 := by
  have b0 := h.b0; have b1 := h.b1
  have h1 : q * b ≤ 4294967295 * b := Int.mul_le_mul_of_nonneg_right (by omega) b0
  exact ⟨Int.mul_nonneg q0 b0, by omega⟩
/-- what the words give for the rest -/
theorem Dig.rest (h : Dig u a b d) (D : Int) (hD : D = a * 4294967296 + b) : IntKind.u64.wrap (IntKind.u64.wrap (IntKind.u64.wrap (u * 4294967296) + d) - IntKind.u64.wrap (digQ u a b d * D)) = digR u a b d ∧ 0 ≤ digR u a b d ∧ digR u a b d < D := by
  have e := Int.mul_ediv_add_emod (u * 4294967296 + d) D
  have r0 := Int.emod_nonneg (u * 4294967296 + d) (show D ≠ 0 by have := h.pos; omega)
  have r1 := Int.emod_lt_of_pos (u * 4294967296 + d) (show 0 < D by have := h.pos; omega)
  have a1 := h.a1; have b1 := h.b1
  unfold digQ digR
  rw [← hD]
  refine ⟨?_, r0, r1⟩
  rw [Int.mul_comm (_ / _) D]
  generalize D * ((u * 4294967296 + d) / D) = p at *
  generalize (u * 4294967296 + d) % D = r at *
  simp only [IntKind.wrap_u64]
  omega
end

/-- two digits -/
theorem dig_two {T S y D u d1 d0 Q1 R1 Q0 R0 : Int} (hS : 0 < S) (hy : 0 < y) (hD : D = y * S) (hT : T * S = (u * 4294967296 + d1) * 4294967296 + d0)
    (hQ1 : Q1 = (u * 4294967296 + d1) / D) (hR1 : R1 = (u * 4294967296 + d1) % D) (hQ0 : Q0 = (R1 * 4294967296 + d0) / D) (hR0 : R0 = (R1 * 4294967296 + d0) % D) :
    Q1 * 4294967296 + Q0 = T / y ∧ R0 / S = T % y := by
  have hDp : 0 < D := by rw [hD]; exact Int.mul_pos hy hS
  have e1 := Int.mul_ediv_add_emod (u * 4294967296 + d1) D
  have e2 := Int.mul_ediv_add_emod (R1 * 4294967296 + d0) D
  have r0 := Int.emod_nonneg (R1 * 4294967296 + d0) (show D ≠ 0 by omega)
  have r1 := Int.emod_lt_of_pos (R1 * 4294967296 + d0) hDp
  rw [← hQ1, ← hR1] at e1
  rw [← hQ0, ← hR0] at e2
  rw [← hR0] at r0 r1
  have e3 : T * S = D * (Q1 * 4294967296 + Q0) + R0 := by
    rw [hT, Int.mul_add, ← Int.mul_assoc]
    omega
  have e4 : T * S / D = Q1 * 4294967296 + Q0 := by
    rw [e3, Int.add_comm, Int.add_mul_ediv_left _ _ (by omega), Int.ediv_eq_zero_of_lt r0 r1, Int.zero_add]
  have e5 : T * S % D = R0 := by
    rw [e3, Int.add_comm, Int.add_mul_emod_self_left, Int.emod_eq_of_lt r0 r1]
  rw [hD, Int.mul_ediv_mul_of_pos_left _ _ hS] at e4
  have e6 : y * S * (T / y) + T % y * S = T * S := by
    have := Int.mul_ediv_add_emod T y
    rw [Int.mul_right_comm, ← Int.add_mul, this]
  have e7 : 0 ≤ T % y := Int.emod_nonneg _ (by omega)
  have e8 : T % y < y := Int.emod_lt_of_pos _ hy
  have e9 : T * S % D = T % y * S := by
    rw [hD, ← e6, Int.add_comm, Int.add_mul_emod_self_left]
    exact Int.emod_eq_of_lt (Int.mul_nonneg e7 (Int.le_of_lt hS)) (Int.mul_lt_mul_of_pos_right e8 hS)
  rw [e9] at e5
  refine ⟨e4.symm, ?_⟩
  rw [← e5, Int.mul_ediv_cancel _ (by omega)]
end Go.Proofs.YtolghagbpnjpgaaGreatDoor
