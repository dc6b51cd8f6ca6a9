/- Plain facts on the division of two words by one (two digits of 32 bits). No program stands here. -/
import Derived.Test.YtfgmkeiiidckbaaDoorCW64
namespace Go.Proofs.YtfgmkeiiidckbaaDoor

/-- is the guess too great? -/
theorem dig_test (u a b d q : Int) : (4294967296 * (u - q * a) + d < q * b) ↔ (u * 4294967296 + d < q * (a * 4294967296 + b)) := by
  have e : q * (a * 4294967296 + b) = (q * a) * 4294967296 + q * b := by rw [Int.mul_add, ← Int.mul_assoc]
  rw [e]
  omega

structure Dig (u a b d : Int) : Prop where
  a0 : 2147483648 ≤ a
  a1 : a < 4294967296
  b0 : 0 ≤ b
  b1 : b < 4294967296
  u0 : 0 ≤ u
  u1 : u < a * 4294967296 + b
  d0 : 0 ≤ d
  d1 : d < 4294967296

/-- the digit -/
def digQ (u a b d : Int) : Int := (u * 4294967296 + d) / (a * 4294967296 + b)
/-- what is left -/
def digR (u a b d : Int) : Int := (u * 4294967296 + d) % (a * 4294967296 + b)

section
variable {u a b d : Int}
theorem Dig.pos (h : Dig u a b d) : 0 < a * 4294967296 + b := by have := h.a0; have := h.b0; omega
theorem Dig.q0 (h : Dig u a b d) : 0 ≤ digQ u a b d := by
  have := h.u0; have := h.d0
  exact Int.ediv_nonneg (by omega) (Int.le_of_lt h.pos)
theorem Dig.q1 (h : Dig u a b d) : digQ u a b d < 4294967296 := by
  have h1 := h.u1; have h2 := h.d1
  refine (Int.ediv_lt_iff_lt_mul h.pos).2 ?_
  omega
theorem Dig.test (h : Dig u a b d) (q r : Int) (hr : r = u - q * a) : (4294967296 * r + d < q * b) ↔ digQ u a b d < q := by
  rw [hr, dig_test, digQ, Int.ediv_lt_iff_lt_mul h.pos]
theorem Dig.start (h : Dig u a b d) : digQ u a b d ≤ u / a ∧ u / a ≤ 4294967297 ∧ 0 ≤ u / a ∧ u - u / a * a = u % a ∧ 0 ≤ u % a ∧ u % a < a := by
  have a0 := h.a0; have a1 := h.a1; have b0 := h.b0; have b1 := h.b1; have u0 := h.u0; have u1 := h.u1; have d0 := h.d0; have d1 := h.d1
  have e := Int.mul_ediv_add_emod u a
  have r0 := Int.emod_nonneg u (show a ≠ 0 by omega)
  have r1 := Int.emod_lt_of_pos u (show 0 < a by omega)
  have q0 : 0 ≤ u / a := Int.ediv_nonneg u0 (by omega)
  refine ⟨?_, ?_, q0, by rw [Int.mul_comm]; omega, r0, r1⟩
  · have h1 : digQ u a b d < u / a + 1 := by
      refine (Int.ediv_lt_iff_lt_mul h.pos).2 ?_
      have e2 : (u / a + 1) * (a * 4294967296 + b) = (a * (u / a) + a) * 4294967296 + (u / a + 1) * b := by
        rw [Int.mul_add, ← Int.mul_assoc, Int.add_mul (u / a) 1 a, Int.one_mul, Int.mul_comm (u / a) a]
      have e3 : 0 ≤ (u / a + 1) * b := Int.mul_nonneg (by omega) b0
      rw [e2]
      omega
    omega
  · have h1 : u / a < 4294967298 := by
      refine (Int.ediv_lt_iff_lt_mul (by omega)).2 ?_
      omega
    omega
theorem Dig.stop (h : Dig u a b d) (q r : Int) (hr : r = u - q * a) (hq : q ≤ 4294967296) (hge : 4294967296 ≤ r) : ¬ digQ u a b d < q := by
  rw [← h.test q r hr]
  have b0 := h.b0; have b1 := h.b1; have d0 := h.d0
  have h1 : q * b ≤ 4294967296 * b := Int.mul_le_mul_of_nonneg_right hq b0
  omega
/-- the guess less one -/
theorem dig_next {q r : Int} (hr : r = u - q * a) : r + a = u - (q - 1) * a := by
  rw [Int.sub_mul, Int.one_mul]; omega
theorem Dig.prod (h : Dig u a b d) {q : Int} (q0 : 0 ≤ q) (q1 : q < 4294967296) : 0 ≤ q * b ∧ q * b < 18446744073709551616 := by
  have b0 := h.b0; have b1 := h.b1
  have h1 : q * b ≤ 4294967295 * b := Int.mul_le_mul_of_nonneg_right (by omega) b0
  exact ⟨Int.mul_nonneg q0 b0, by omega⟩
/-- what the words give for the rest -/
theorem Dig.rest (h : Dig u a b d) (D : Int) (hD : D = a * 4294967296 + b) : IntKind.u64.wrap (IntKind.u64.wrap (IntKind.u64.wrap (u * 4294967296) + d) - IntKind.u64.wrap (digQ u a b d * D)) = digR u a b d ∧ 0 ≤ digR u a b d ∧ digR u a b d < D := by
  have e := Int.mul_ediv_add_emod (u * 4294967296 + d) D
  have r0 := Int.emod_nonneg (u * 4294967296 + d) (show D ≠ 0 by have := h.pos; omega)
  have r1 := Int.emod_lt_of_pos (u * 4294967296 + d) (show 0 < D by have := h.pos; omega)
  have a1 := h.a1; have b1 := h.b1
  unfold digQ digR
  rw [← hD]
  refine ⟨?_, r0, r1⟩
  rw [Int.mul_comm (_ / _) D]
  generalize D * ((u * 4294967296 + d) / D) = p at *
  generalize (u * 4294967296 + d) % D = r at *
  simp only [IntKind.wrap_u64]
  omega
end

/-- two digits -/
theorem dig_two {T S y D u d1 d0 Q1 R1 Q0 R0 : Int} (hS : 0 < S) (hy : 0 < y) (hD : D = y * S) (hT : T * S = (u * 4294967296 + d1) * 4294967296 + d0)
    (hQ1 : Q1 = (u * 4294967296 + d1) / D) (hR1 : R1 = (u * 4294967296 + d1) % D) (hQ0 : Q0 = (R1 * 4294967296 + d0) / D) (hR0 : R0 = (R1 * 4294967296 + d0) % D) :
    Q1 * 4294967296 + Q0 = T / y ∧ R0 / S = T % y := by
  have hDp : 0 < D := by rw [hD]; exact Int.mul_pos hy hS
  have e1 := Int.mul_ediv_add_emod (u * 4294967296 + d1) D
  have e2 := Int.mul_ediv_add_emod (R1 * 4294967296 + d0) D
  have r0 := Int.emod_nonneg (R1 * 4294967296 + d0) (show D ≠ 0 by omega)
  have r1 := Int.emod_lt_of_pos (R1 * 4294967296 + d0) hDp
  rw [← hQ1, ← hR1] at e1
  rw [← hQ0, ← hR0] at e2
  rw [← hR0] at r0 r1
  have e3 : T * S = D * (Q1 * 4294967296 + Q0) + R0 := by
    rw [hT, Int.mul_add, ← Int.mul_assoc]
    omega
  have e4 : T * S / D = Q1 * 4294967296 + Q0 := by
    rw [e3, Int.add_comm, Int.add_mul_ediv_left _ _ (by omega), Int.ediv_eq_zero_of_lt r0 r1, Int.zero_add]
  have e5 : T * S % D = R0 := by
    rw [e3, Int.add_comm, Int.add_mul_emod_self_left, Int.emod_eq_of_lt r0 r1]
  rw [hD, Int.mul_ediv_mul_of_pos_left _ _ hS] at e4
  have e6 : y * S * (T / y) + T % y * S = T * S := by
    have := Int.mul_ediv_add_emod T y
    rw [Int.mul_right_comm, ← Int.add_mul, this]
  have e7 : 0 ≤ T % y := Int.emod_nonneg _ (by omega)
  have e8 : T % y < y := Int.emod_lt_of_pos _ hy
  have e9 : T * S % D = T % y * S := by
    rw [hD, ← e6, Int.add_comm, Int.add_mul_emod_self_left]
    exact Int.emod_eq_of_lt (Int.mul_nonneg e7 (Int.le_of_lt hS)) (Int.mul_lt_mul_of_pos_right e8 hS)
  rw [e9] at e5
  refine ⟨e4.symm, ?_⟩
  rw [← e5, Int.mul_ediv_cancel _ (by omega)]
end Go.Proofs.YtfgmkeiiidckbaaDoor
