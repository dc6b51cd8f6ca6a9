import Derived.Test.YtekocoklfnojmaaGreatDoorIHoldsU16
import Derived.Test.YtekocoklfnojmaaGreatDoorIHoldsU4
namespace Go.Proofs.YtekocoklfnojmaaGreatDoor
open Go.RowKit

def faddF (a b : Nat) (mode : Int) : Nat := fmaF a 4607182418800017408 b mode
def fmulF (a b : Nat) (mode : Int) : Nat := fmaF a b (sgz (fneg a != fneg b)) mode

set_option maxRecDepth 100000 in
theorem fadd_any (a b : Nat) (mode : Int) (ha : a < 18446744073709551616) (hb : b < 18446744073709551616) (w : World) :
    Calls Tryz.prog 69 #[.int .u64 (a : Int), .int .u64 (b : Int), .int .i64 mode] w fun r w' => r = .returned (.int .u64 ((faddF a b mode : Nat) : Int)) ∧ Ext w w' := by
  unfold faddF
  have C := ffma_any a 4607182418800017408 b mode ha (by omega) hb
  generalize fmaF a 4607182418800017408 b mode = R at *
  rw [show ((4607182418800017408 : Nat) : Int) = 4607182418800017408 from rfl] at C
  have C := Lib.hid C
  go_enter Tryz.func69, Tryz.ntmps69
  go_wp2_with fail
  refine (C.out _).mono ?_
  rintro r w1 ⟨rfl, hE⟩
  go_wp2
  go_ret
  exact ⟨rfl, hE⟩

set_option maxRecDepth 100000 in
theorem fmul_any (a b : Nat) (mode : Int) (ha : a < 18446744073709551616) (hb : b < 18446744073709551616) (w : World) :
    Calls Tryz.prog 74 #[.int .u64 (a : Int), .int .u64 (b : Int), .int .i64 mode] w fun r w' => r = .returned (.int .u64 ((fmulF a b mode : Nat) : Int)) ∧ Ext w w' := by
  unfold fmulF
  have hx : a ^^^ b < 18446744073709551616 := Nat.xor_lt_two_pow (n := 64) (by omega) (by omega)
  have h1 := bits_xor_u64_nat a b ha hb
  have CS := signOf_any (a ^^^ b) hx
  rw [fneg_xor ha hb] at CS
  have C := ffma_any a b (sgz (fneg a != fneg b)) mode ha hb (by have := sgz_le (fneg a != fneg b); omega)
  generalize a ^^^ b = x at *
  generalize fmaF a b (sgz (fneg a != fneg b)) mode = R at *
  generalize sgz (fneg a != fneg b) = z at *
  have C := Lib.hid C
  have CS := Lib.hid CS
  go_enter Tryz.func74, Tryz.ntmps74
  go_wp2_with fail
  refine (CS.out _).mono ?_
  rintro r w1 ⟨rfl, rfl⟩
  go_wp2_with fail
  refine (C.out _).mono ?_
  rintro r w1 ⟨rfl, hE⟩
  go_wp2
  go_ret
  exact ⟨rfl, hE⟩

set_option maxRecDepth 100000 in
set_option maxHeartbeats 1000000 in
theorem div64_zero (lo y : Nat) (hl : lo < 18446744073709551616) (hy : y < 18446744073709551616) (hy0 : y ≠ 0) (w : World) :
    Calls Tryz.prog 164 #[.int .u64 0, .int .u64 (lo : Int), .int .u64 (y : Int)] w fun r w' => r = .returned (.tuple #[.int .u64 ((lo / y : Nat) : Int), .int .u64 ((lo % y : Nat) : Int)]) ∧ Ext w w' := by
  have h0 : ((y : Int) == 0) = false := by rw [beq_eq_false_iff_ne]; omega
  have h1 : ¬ (y : Int) ≤ 0 := by omega
  have h2 : (0 : Int) < (y : Int) := by omega
  have q1 : (lo : Int) / (y : Int) = ((lo / y : Nat) : Int) := (Int.natCast_ediv lo y).symm
  have q2 : (lo : Int) % (y : Int) = ((lo % y : Nat) : Int) := (Int.natCast_emod lo y).symm
  have q3 : (lo : Int).tdiv (y : Int) = ((lo / y : Nat) : Int) := by rw [Int.tdiv_eq_ediv_of_nonneg (by omega), q1]
  have q4 : (lo : Int).tmod (y : Int) = ((lo % y : Nat) : Int) := by rw [Int.tmod_eq_emod_of_nonneg (by omega), q2]
  have hb : lo / y < 18446744073709551616 := Nat.lt_of_le_of_lt (Nat.div_le_self _ _) hl
  have q5 : IntKind.u64.wrap ((lo / y : Nat) : Int) = ((lo / y : Nat) : Int) := wrap_nat hb
  generalize lo / y = q at *
  generalize lo % y = r at *
  clear hl hy hy0
  go_enter Tryz.func164, Tryz.ntmps164
  go_upto_region 6 with fail
  go_quiet (fail)
  go_wp2
  go_ret2
  exact ⟨rfl, below_drewN (Below.refl _ _) _⟩

end Go.Proofs.YtekocoklfnojmaaGreatDoor

namespace Go.Proofs.YtekocoklfnojmaaGreatDoor

theorem xne_comm (a b : Bool) : (a != b) = (b != a) := by cases a <;> cases b <;> rfl

theorem fmaF_comm (a b c : Nat) (mode : Int) : fmaF a b c mode = fmaF b a c mode := by
  unfold fmaF
  rw [Bool.or_comm (nanB b) (nanB a), Bool.or_comm (infB b) (infB a), Bool.or_comm (zeroB b) (zeroB a), xne_comm (fneg b) (fneg a), Nat.mul_comm (fz b) (fz a)]

theorem fmulF_comm (a b : Nat) (mode : Int) : fmulF a b mode = fmulF b a mode := by
  unfold fmulF
  rw [xne_comm (fneg b) (fneg a), fmaF_comm]

theorem fz_one : fz 4607182418800017408 = 2 ^ low74 := by decide +kernel

theorem one_facts : nanB 4607182418800017408 = false ∧ infB 4607182418800017408 = false ∧ zeroB 4607182418800017408 = false ∧ fneg 4607182418800017408 = false := by decide +kernel

/-- times one, and a zero added: the float itself, where it is not zero -/
theorem fma_one {a c : Nat} (mode : Int) (ha : a < 18446744073709551616) (hn : nanB a = false) (hz : zeroB a = false) (hc : fmag c = 0) (hc2 : nanB c = false) (hc3 : infB c = false) : fmaF a 4607182418800017408 c mode = a := by
  obtain ⟨o1, o2, o3, o4⟩ := one_facts
  have hp := f_parts ha
  have hx : (fneg a != false) = fneg a := by cases fneg a <;> rfl
  unfold fmaF
  rw [hn, hc2, o1, o2, o3, hz, hc3, o4, hx]
  simp only [Bool.or_false, Bool.and_false, Bool.false_eq_true, if_false, Bool.false_and]
  cases hi : infB a
  · simp only [Bool.false_eq_true, if_false]
    have hm : fmag a ≤ 9218868437227405312 := by
      have h1 : ¬ 9218868437227405312 < fmag a := of_decide_eq_false hn
      omega
    have hm2 : fmag a ≠ 9218868437227405312 := of_decide_eq_false hi
    have hm0 : fmag a ≠ 0 := of_decide_eq_false hz
    have hf0 : fz a ≠ 0 := fun h => hm0 ((fz_zero a).1 h)
    rw [(fz_zero c).2 hc, Nat.zero_mul, sgi_zero, Int.add_zero, fz_one]
    have hA : fz a * 2 ^ low74 ≠ 0 := Nat.mul_ne_zero hf0 (Nat.pos_iff_ne_zero.1 (Nat.pow_pos (by omega)))
    have hv := Num.unit (fz a) low74 (e := -1074) (m := -2148) (by decide)
    unfold rsum
    rw [if_neg (by unfold sgi; split <;> omega), rnd_sgi _ hA, ← hv.fla hf0, fla_fz _ hm0 (by omega)]
    exact hp.symm
  · simp only [if_true]
    have hm : fmag a = 9218868437227405312 := of_decide_eq_true hi
    rw [hm] at hp
    omega
end Go.Proofs.YtekocoklfnojmaaGreatDoor

namespace Go.Proofs.YtekocoklfnojmaaGreatDoor

theorem inf_val {a : Nat} (ha : a < 18446744073709551616) (hi : infB a = true) : 9218868437227405312 + sgz (fneg a) = a := by
  have hp := f_parts ha
  have hm : fmag a = 9218868437227405312 := of_decide_eq_true hi
  omega
theorem zero_val {a : Nat} (ha : a < 18446744073709551616) (hz : zeroB a = true) : sgz (fneg a) = a := by
  have hp := f_parts ha
  have hm : fmag a = 0 := of_decide_eq_true hz
  omega
theorem zero_not {a : Nat} (hz : zeroB a = true) : nanB a = false ∧ infB a = false ∧ fmag a = 0 ∧ fz a = 0 := by
  have hm : fmag a = 0 := of_decide_eq_true hz
  exact ⟨decide_eq_false (by omega), decide_eq_false (by omega), hm, (fz_zero a).2 hm⟩
theorem inf_not {a : Nat} (hi : infB a = true) : nanB a = false ∧ zeroB a = false := by
  have hm : fmag a = 9218868437227405312 := of_decide_eq_true hi
  exact ⟨decide_eq_false (by omega), decide_eq_false (by omega)⟩
theorem xor_false (b : Bool) : (b != false) = b := by cases b <;> rfl

/-- a sum, written out -/
theorem add_form (a b : Nat) (mode : Int) : fmaF a 4607182418800017408 b mode =
    if nanB a || nanB b then 9221120237041090560
    else if infB a && infB b && decide (b ≠ 9218868437227405312 + sgz (fneg a)) then 9221120237041090560
    else if infB a then 9218868437227405312 + sgz (fneg a)
    else if zeroB a && zeroB b && decide (b ≠ sgz (fneg a)) then cancel mode
    else if infB b || zeroB a then b
    else rsum (sgi (fneg a) (fz a * 2 ^ low74) + sgi (fneg b) (fz b * 2 ^ low74)) (-2148) mode := by
  obtain ⟨o1, o2, o3, o4⟩ := one_facts
  unfold fmaF
  rw [o1, o2, o3, o4, xor_false, fz_one]
  simp only [Bool.or_false]
  by_cases h : infB a = true
  · obtain ⟨h1, h2⟩ := inf_not h
    rw [h, h1, h2]
    simp
  · rw [Bool.not_eq_true] at h
    rw [h]
    simp

theorem faddF_comm {a b : Nat} (ha : a < 18446744073709551616) (hb : b < 18446744073709551616) (mode : Int) : faddF a b mode = faddF b a mode := by
  unfold faddF
  rw [add_form, add_form, Bool.or_comm (nanB b) (nanB a)]
  cases hna : nanB a
  · cases hnb : nanB b
    · simp only [Bool.or_false, Bool.false_eq_true, if_false]
      cases hia : infB a
      · cases hib : infB b
        · simp only [Bool.false_and, Bool.false_eq_true, if_false, Bool.false_or]
          cases hza : zeroB a
          · cases hzb : zeroB b
            · simp only [Bool.false_and, Bool.false_eq_true, if_false]
              rw [Int.add_comm]
            · simp only [Bool.false_and, Bool.and_false, Bool.false_eq_true, if_false, if_true]
              obtain ⟨h1, h2, h3, h4⟩ := zero_not hzb
              have := fma_one (c := b) mode ha hna hza h3 h1 h2
              rw [add_form, hna, hnb, hia, hza, hib] at this
              simpa using this
          · cases hzb : zeroB b
            · simp only [Bool.false_and, Bool.and_false, Bool.false_eq_true, if_false, if_true]
              obtain ⟨h1, h2, h3, h4⟩ := zero_not hza
              have := fma_one (c := a) mode hb hnb hzb h3 h1 h2
              rw [add_form, hna, hnb, hib, hzb, hia] at this
              simpa using this.symm
            · have e1 := zero_val ha hza
              have e2 := zero_val hb hzb
              rw [e1, e2]
              simp only [Bool.true_and, if_true]
              by_cases hab : a = b
              · subst hab; simp
              · rw [decide_eq_true (show b ≠ a from fun h => hab h.symm), decide_eq_true (show a ≠ b from hab)]
                simp
        · obtain ⟨h1, h2⟩ := inf_not hib
          rw [inf_val hb hib, h2]
          simp
      · obtain ⟨h1, h2⟩ := inf_not hia
        cases hib : infB b
        · rw [inf_val ha hia, h2]
          simp
        · rw [inf_val ha hia, inf_val hb hib]
          simp only [Bool.true_and, if_true]
          by_cases hab : a = b
          · subst hab; simp
          · rw [decide_eq_true (show b ≠ a from fun h => hab h.symm), decide_eq_true (show a ≠ b from hab)]
            simp
    · simp
  · simp

end Go.Proofs.YtekocoklfnojmaaGreatDoor

namespace Go.Proofs.YtekocoklfnojmaaGreatDoor

/-- is the guess too great? -/
theorem dig_test (u a b d q : Int) : (4294967296 * (u - q * a) + d < q * b) ↔ (u * 4294967296 + d < q * (a * 4294967296 + b)) := by
  have e : q * (a * 4294967296 + b) = (q * a) * 4294967296 + q * b := by rw [Int.mul_add, ← Int.mul_assoc]
  rw [e]
  omega

structure Dig (u a b d : Int) : Prop where
  a0 : 2147483648 ≤ a
  a1 : a < 4294967296
  b0 : 0 ≤ b
  b1 : b < 4294967296
  u0 : 0 ≤ u
  u1 : u < a * 4294967296 + b
  d0 : 0 ≤ d
  d1 : d < 4294967296

/-- the digit -/
def digQ (u a b d : Int) : Int := (u * 4294967296 + d) / (a * 4294967296 + b)
/-- what is left -/
def digR (u a b d : Int) : Int := (u * 4294967296 + d) % (a * 4294967296 + b)

section
variable {u a b d : Int}
theorem Dig.pos (h : Dig u a b d) : 0 < a * 4294967296 + b := by have := h.a0; have := h.b0; omega
theorem Dig.q0 (h : Dig u a b d) : 0 ≤ digQ u a b d := by
  have := h.u0; have := h.d0
  exact Int.ediv_nonneg (by omega) (Int.le_of_lt h.pos)
theorem Dig.q1 (h : Dig u a b d) : digQ u a b d < 4294967296 := by
  have h1 := h.u1; have h2 := h.d1
  refine (Int.ediv_lt_iff_lt_mul h.pos).2 ?_
  omega
theorem Dig.test (h : Dig u a b d) (q r : Int) (hr : r = u - q * a) : (4294967296 * r + d < q * b) ↔ digQ u a b d < q := by
  rw [hr, dig_test, digQ, Int.ediv_lt_iff_lt_mul h.pos]
theorem Dig.start (h : Dig u a b d) : digQ u a b d ≤ u / a ∧ u / a ≤ 4294967297 ∧ 0 ≤ u / a ∧ u - u / a * a = u % a ∧ 0 ≤ u % a ∧ u % a < a := by
  have a0 := h.a0; have a1 := h.a1; have b0 := h.b0; have b1 := h.b1; have u0 := h.u0; have u1 := h.u1; have d0 := h.d0; have d1 := h.d1
  have e := Int.mul_ediv_add_emod u a
  have r0 := Int.emod_nonneg u (show a ≠ 0 by omega)
  have r1 := Int.emod_lt_of_pos u (show 0 < a by omega)
  have q0 : 0 ≤ u / a := Int.ediv_nonneg u0 (by omega)
  refine ⟨?_, ?_, q0, by rw [Int.mul_comm]; omega, r0, r1⟩
  · have h1 : digQ u a b d < u / a + 1 := by
      refine (Int.ediv_lt_iff_lt_mul h.pos).2 ?_
      have e2 : (u / a + 1) * (a * 4294967296 + b) = (a * (u / a) + a) * 4294967296 + (u / a + 1) * b := by
        rw [Int.mul_add, ← Int.mul_assoc, Int.add_mul (u / a) 1 a, Int.one_mul, Int.mul_comm (u / a) a]
      have e3 : 0 ≤ (u / a + 1) * b := Int.mul_nonneg (by omega) b0
      rw [e2]
      omega
    omega
  · have h1 : u / a < 4294967298 := by
      refine (Int.ediv_lt_iff_lt_mul (by omega)).2 ?_
      omega
    omega
theorem Dig.stop (h : Dig u a b d) (q r : Int) (hr : r = u - q * a) (hq : q ≤ 4294967296) (hge : 4294967296 ≤ r) : ¬ digQ u a b d < q := by
  rw [← h.test q r hr]
  have b0 := h.b0; have b1 := h.b1; have d0 := h.d0
  have h1 : q * b ≤ 4294967296 * b := Int.mul_le_mul_of_nonneg_right hq b0
  omega
/-- the guess less one -/
theorem dig_next {q r : Int} (hr : r = u - q * a) : r + a = u - (q - 1) * a := by
  rw [Int.sub_mul, Int.one_mul]; omega
theorem Dig.prod (h : Dig u a b d) {q : Int} (q0 : 0 ≤ q) (q1 : q < 4294967296) : 0 ≤ q * b ∧ q * b < 18446744073709551616 := by
  have b0 := h.b0; have b1 := h.b1
  have h1 : q * b ≤ 4294967295 * b := Int.mul_le_mul_of_nonneg_right (by omega) b0
  exact ⟨Int.mul_nonneg q0 b0, by omega⟩
/-- what the words give for the rest -/
theorem Dig.rest (h : Dig u a b d) (D : Int) (hD : D = a * 4294967296 + b) : IntKind.u64.wrap (IntKind.u64.wrap (IntKind.u64.wrap (u * 4294967296) + d) - IntKind.u64.wrap (digQ u a b d * D)) = digR u a b d ∧ 0 ≤ digR u a b d ∧ digR u a b d < D := by
  have e := Int.mul_ediv_add_emod (u * 4294967296 + d) D
  have r0 := Int.emod_nonneg (u * 4294967296 + d) (show D ≠ 0 by have := h.pos; omega)
  have r1 := Int.emod_lt_of_pos (u * 4294967296 + d) (show 0 < D by have := h.pos; omega)
  have a1 := h.a1; have b1 := h.b1
  unfold digQ digR
  rw [← hD]
  refine ⟨?_, r0, r1⟩
  rw [Int.mul_comm (_ / _) D]
  generalize D * ((u * 4294967296 + d) / D) = p at *
  generalize (u * 4294967296 + d) % D = r at *
  simp only [IntKind.wrap_u64]
  omega
end

/-- two digits -/
theorem dig_two {T S y D u d1 d0 Q1 R1 Q0 R0 : Int} (hS : 0 < S) (hy : 0 < y) (hD : D = y * S) (hT : T * S = (u * 4294967296 + d1) * 4294967296 + d0)
    (hQ1 : Q1 = (u * 4294967296 + d1) / D) (hR1 : R1 = (u * 4294967296 + d1) % D) (hQ0 : Q0 = (R1 * 4294967296 + d0) / D) (hR0 : R0 = (R1 * 4294967296 + d0) % D) :
    Q1 * 4294967296 + Q0 = T / y ∧ R0 / S = T % y := by
  have hDp : 0 < D := by rw [hD]; exact Int.mul_pos hy hS
  have e1 := Int.mul_ediv_add_emod (u * 4294967296 + d1) D
  have e2 := Int.mul_ediv_add_emod (R1 * 4294967296 + d0) D
  have r0 := Int.emod_nonneg (R1 * 4294967296 + d0) (show D ≠ 0 by omega)
  have r1 := Int.emod_lt_of_pos (R1 * 4294967296 + d0) hDp
  rw [← hQ1, ← hR1] at e1
  rw [← hQ0, ← hR0] at e2
  rw [← hR0] at r0 r1
  have e3 : T * S = D * (Q1 * 4294967296 + Q0) + R0 := by
    rw [hT, Int.mul_add, ← Int.mul_assoc]
    omega
  have e4 : T * S / D = Q1 * 4294967296 + Q0 := by
    rw [e3, Int.add_comm, Int.add_mul_ediv_left _ _ (by omega), Int.ediv_eq_zero_of_lt r0 r1, Int.zero_add]
  have e5 : T * S % D = R0 := by
    rw [e3, Int.add_comm, Int.add_mul_emod_self_left, Int.emod_eq_of_lt r0 r1]
  rw [hD, Int.mul_ediv_mul_of_pos_left _ _ hS] at e4
  have e6 : y * S * (T / y) + T % y * S = T * S := by
    have := Int.mul_ediv_add_emod T y
    rw [Int.mul_right_comm, ← Int.add_mul, this]
  have e7 : 0 ≤ T % y := Int.emod_nonneg _ (by omega)
  have e8 : T % y < y := Int.emod_lt_of_pos _ hy
  have e9 : T * S % D = T % y * S := by
    rw [hD, ← e6, Int.add_comm, Int.add_mul_emod_self_left]
    exact Int.emod_eq_of_lt (Int.mul_nonneg e7 (Int.le_of_lt hS)) (Int.mul_lt_mul_of_pos_right e8 hS)
  rw [e9] at e5
  refine ⟨e4.symm, ?_⟩
  rw [← e5, Int.mul_ediv_cancel _ (by omega)]
end Go.Proofs.YtekocoklfnojmaaGreatDoor
