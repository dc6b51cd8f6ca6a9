/- Plain facts on the integer square root by Newton steps of growing precision. No program stands here. -/
import Derived.Test.YtjohpdobnedilaaDoorGa
import Derived.Test.YtjohpdobnedilaaDoorGf
import Derived.Test.YtjohpdobnedilaaDoorGd
import Derived.Test.YtjohpdobnedilaaDoorGc
import Derived.Test.YtjohpdobnedilaaDoorGe
namespace Go.Proofs.YtjohpdobnedilaaDoor

theorem sq_nonneg (x : Int) : 0 ≤ x * x := by
  rcases Int.le_total 0 x with h | h
  · exact Int.mul_nonneg h h
  · exact Int.mul_nonneg_of_nonpos_of_nonpos h h

theorem sq_sub (a b : Int) : (a - b) * (a - b) = a * a - 2 * (a * b) + b * b := by
  rw [Int.sub_mul, Int.mul_sub, Int.mul_sub, Int.mul_comm b a]; omega
theorem sq_add (a b : Int) : (a + b) * (a + b) = a * a + 2 * (a * b) + b * b := by
  rw [Int.add_mul, Int.mul_add, Int.mul_add, Int.mul_comm b a]; omega
theorem sq_le {a b : Int} (h0 : 0 ≤ a) (h : a ≤ b) : a * a ≤ b * b := Int.mul_le_mul h h h0 (by omega)

/-- one step: from an A that is near the root of M to the half of A + M / A -/
theorem newton_step {A D M q : Int} (hA : 0 < A) (hD : 0 < D) (h2 : D * D ≤ 2 * A) (hlo : (A - D) * (A - D) < M) (hhi : M < (A + D) * (A + D))
    (q1 : 2 * (A * q) ≤ A * A + M) (q2 : A * A + M < 2 * (A * (q + 1))) (hq : 1 ≤ q) : (q - 1) * (q - 1) < M ∧ M < (q + 1) * (q + 1) := by
  constructor
  · rcases Int.lt_or_le ((q - 1) * (q - 1)) M with h | h
    · exact h
    · exfalso
      obtain ⟨r, hr⟩ : ∃ r, q - 1 = r := ⟨_, rfl⟩
      rw [hr] at h
      have e1 : A * q = A * r + A := by rw [← hr, Int.mul_sub]; omega
      rw [e1] at q1
      rw [sq_sub] at hlo
      rw [sq_add] at hhi
      -- A - r is far from zero
      have e2 := sq_sub A r
      rcases Int.lt_or_le (A - D) r with c1 | c1
      · rcases Int.lt_or_le r (A + D) with c2 | c2
        · -- |A - r| < D
          have c3 : (A - r) * (A - r) < D * D := by
            rcases Int.le_total r A with c4 | c4
            · have := sq_le (a := A - r) (b := D - 1) (by omega) (by omega)
              rw [sq_sub D 1] at this
              omega
            · have := sq_le (a := r - A) (b := D - 1) (by omega) (by omega)
              rw [sq_sub D 1] at this
              have e3 : (r - A) * (r - A) = (A - r) * (A - r) := by rw [sq_sub, sq_sub, Int.mul_comm r A]; omega
              omega
          omega
        · have := Int.mul_le_mul_of_nonneg_left c2 (Int.le_of_lt hA)
          rw [Int.mul_add] at this
          omega
      · have := sq_le (a := r) (b := A - D) (by omega) c1
        rw [sq_sub] at this
        omega
  · rcases Int.lt_or_le M ((q + 1) * (q + 1)) with h | h
    · exact h
    · exfalso
      have e := sq_nonneg (A - (q + 1))
      rw [sq_sub] at e
      omega

theorem mul4 (a b c d : Int) : a * b * (c * d) = a * c * (b * d) := by rw [Int.mul_assoc, Int.mul_left_comm b, ← Int.mul_assoc]

/-- a is the root of the leading bits of n, up to one -/
def Near (n c d a : Nat) : Prop := d ≤ c ∧ 2 ^ d ≤ a ∧ ((a : Int) - 1) * (a - 1) < (n / 4 ^ (c - d) : Nat) ∧ ((n / 4 ^ (c - d) : Nat) : Int) < (a + 1) * (a + 1)

theorem four_pow (k : Nat) : 4 ^ k = 2 ^ k * 2 ^ k := by rw [← Nat.mul_pow]

theorem Near.start {n c : Nat} (h0 : 4 ^ c ≤ n) (h1 : n < 4 ^ (c + 1)) : Near n c 0 1 := by
  have hp : 0 < 4 ^ c := Nat.pos_of_ne_zero (by simp)
  have e1 : 1 ≤ n / 4 ^ c := (Nat.le_div_iff_mul_le hp).2 (by omega)
  have e2 : n / 4 ^ c < 4 := by rw [Nat.div_lt_iff_lt_mul hp, Nat.mul_comm, ← Nat.pow_succ]; exact h1
  refine ⟨Nat.zero_le _, by simp, ?_, ?_⟩ <;> simp only [Nat.sub_zero] <;> omega

theorem Near.step {n c e d k a : Nat} (h : Near n c e a) (h0 : 4 ^ c ≤ n) (hd : d = e + k + 1) (hke : k ≤ e) (hdc : d ≤ c) :
    Near n c d (a * 2 ^ k + n / 2 ^ (2 * c - e - d + 1) / a) := by
  obtain ⟨h1, h2, h3, h4⟩ := h
  have ha : 0 < a := Nat.lt_of_lt_of_le (Nat.pos_of_ne_zero (by simp)) h2
  have hpk : 0 < 2 ^ k := Nat.pos_of_ne_zero (by simp)
  obtain ⟨M, hM⟩ : ∃ M, n / 4 ^ (c - d) = M := ⟨_, rfl⟩
  have eN : n / 4 ^ (c - e) = M / (2 ^ (k + 1) * 2 ^ (k + 1)) := by
    rw [← hM, Nat.div_div_eq_div_mul, ← four_pow, ← Nat.pow_add, show c - d + (k + 1) = c - e by omega]
  have eq : n / 2 ^ (2 * c - e - d + 1) / a = M / (2 * (a * 2 ^ (k + 1))) := by
    rw [← hM, four_pow, Nat.div_div_eq_div_mul, Nat.div_div_eq_div_mul]
    congr 1
    rw [show 2 * c - e - d + 1 = (c - d) + (c - d) + (k + 1) + 1 by omega, Nat.pow_succ, Nat.pow_add, Nat.pow_add, Nat.mul_assoc _ 2, Nat.mul_assoc, Nat.mul_comm a, Nat.mul_left_comm 2, ← Nat.mul_assoc (2 ^ (k + 1))]
  have hMge : 4 ^ d ≤ M := by
    rw [← hM, Nat.le_div_iff_mul_le (Nat.pos_of_ne_zero (by simp)), ← Nat.pow_add, show d + (c - d) = c by omega]
    exact h0
  rw [eN] at h3 h4
  unfold Near
  rw [eq, hM]
  have hD2 : 2 ^ (k + 1) ≤ 2 * a := by
    have := Nat.pow_le_pow_right (show 0 < 2 by omega) hke
    rw [Nat.pow_succ]; omega
  have hA : a * 2 ^ (k + 1) = 2 * (a * 2 ^ k) := by rw [Nat.pow_succ, ← Nat.mul_assoc, Nat.mul_comm]
  have hDpos : 0 < 2 ^ (k + 1) := Nat.pos_of_ne_zero (by simp)
  generalize hDD : 2 ^ (k + 1) = D at *
  generalize hHH : a * 2 ^ k = H at *
  have hHpos : 0 < H := by rw [← hHH]; exact Nat.mul_pos ha hpk
  have hdm := Nat.div_add_mod M (2 * (a * D))
  have hml := Nat.mod_lt M (show 0 < 2 * (a * D) by rw [hA]; omega)
  have hdm2 := Nat.div_add_mod M (D * D)
  have hml2 := Nat.mod_lt M (Nat.mul_pos hDpos hDpos)
  generalize M / (D * D) = N at *
  generalize M % (D * D) = r2 at *
  generalize M % (2 * (a * D)) = r at *
  generalize M / (2 * (a * D)) = q at *
  have hDN : D * D ≤ 2 * (a * D) := by have := Nat.mul_le_mul_right D hD2; rwa [Nat.mul_assoc] at this
  have eL : ((a * D : Nat) : Int) - D = ((a : Int) - 1) * D := by rw [Int.sub_mul, Int.one_mul, Int.natCast_mul]
  have eH : ((a * D : Nat) : Int) + D = ((a : Int) + 1) * D := by rw [Int.add_mul, Int.one_mul, Int.natCast_mul]
  have hD2 : ((D * D : Nat) : Int) = (D : Int) * D := Int.natCast_mul _ _
  have hDp2 : 0 < D * D := Nat.mul_pos hDpos hDpos
  have hlo : (((a * D : Nat) : Int) - D) * (((a * D : Nat) : Int) - D) < M := by
    rw [eL, mul4]
    have h5 := Int.mul_le_mul_of_nonneg_right (show ((a : Int) - 1) * (a - 1) + 1 ≤ N by omega) (show (0 : Int) ≤ (D : Int) * D by omega)
    rw [Int.add_mul, Int.one_mul] at h5
    have h6 : ((N : Int) * ((D : Int) * D)) ≤ M := by
      have h7 : N * (D * D) ≤ M := by rw [Nat.mul_comm]; omega
      rw [← hD2, ← Int.natCast_mul]; omega
    omega
  have hhi : (M : Int) < (((a * D : Nat) : Int) + D) * (((a * D : Nat) : Int) + D) := by
    rw [eH, mul4]
    have h5 := Int.mul_le_mul_of_nonneg_right (show (N : Int) + 1 ≤ ((a : Int) + 1) * (a + 1) by omega) (show (0 : Int) ≤ (D : Int) * D by omega)
    rw [Int.add_mul, Int.one_mul] at h5
    have h6 : (M : Int) < N * ((D : Int) * D) + (D : Int) * D := by
      have h7 : M < N * (D * D) + D * D := by rw [Nat.mul_comm N]; omega
      rw [← hD2, ← Int.natCast_mul]; omega
    omega
  generalize a * D = A at *
  have hAA : A * A = 2 * (A * H) := by
    conv => lhs; arg 2; rw [hA]
    rw [Nat.mul_left_comm]
  rw [Nat.mul_assoc] at hdm
  have e1 : A * (H + q) = A * H + A * q := Nat.mul_add _ _ _
  have e2 : A * (H + q + 1) = A * (H + q) + A := by rw [Nat.mul_add, Nat.mul_one]
  have q1 : 2 * (A * (H + q)) ≤ A * A + M := by omega
  have q2 : A * A + M < 2 * (A * (H + q + 1)) := by omega
  have cA : ((A * A : Nat) : Int) = (A : Int) * A := Int.natCast_mul _ _
  have cq : ((A * (H + q) : Nat) : Int) = (A : Int) * ((H + q : Nat) : Int) := Int.natCast_mul _ _
  have cq1 : ((A * (H + q + 1) : Nat) : Int) = (A : Int) * (((H + q : Nat) : Int) + 1) := Int.natCast_mul _ _
  have key := newton_step (A := (A : Int)) (D := (D : Int)) (M := (M : Int)) (q := ((H + q : Nat) : Int)) (by omega) (by omega) (by omega) hlo hhi (by omega) (by omega) (by omega)
  refine ⟨hdc, ?_, key.1, key.2⟩
  rcases Nat.lt_or_ge (H + q) (2 ^ d) with h | h
  · exfalso
    have h5 : (H + q + 1) * (H + q + 1) ≤ 2 ^ d * 2 ^ d := Nat.mul_le_mul h h
    rw [← four_pow] at h5
    have c5 : (((H + q + 1) * (H + q + 1) : Nat) : Int) = (((H + q : Nat) : Int) + 1) * (((H + q : Nat) : Int) + 1) := Int.natCast_mul _ _
    have := key.2
    omega
  · exact h

/-- the root, behind the last step -/
theorem Near.finish {n c a : Nat} (h : Near n c c a) : (if n < a * a then a - 1 else a) * (if n < a * a then a - 1 else a) ≤ n ∧ n < ((if n < a * a then a - 1 else a) + 1) * ((if n < a * a then a - 1 else a) + 1) := by
  obtain ⟨_, h2, h3, h4⟩ := h
  have ha : 0 < a := Nat.lt_of_lt_of_le (Nat.pos_of_ne_zero (by simp)) h2
  rw [Nat.sub_self, Nat.pow_zero, Nat.div_one] at h3 h4
  have c1 : (((a - 1) * (a - 1) : Nat) : Int) = ((a : Int) - 1) * (a - 1) := by rw [Int.natCast_mul, Int.ofNat_sub ha]; rfl
  have c2 : (((a + 1) * (a + 1) : Nat) : Int) = ((a : Int) + 1) * (a + 1) := Int.natCast_mul _ _
  split
  · refine ⟨by omega, ?_⟩
    rw [Nat.sub_add_cancel ha]
    assumption
  · exact ⟨by omega, by omega⟩

/-- one more bit of c -/
theorem halves (c j : Nat) (h : 1 ≤ c / 2 ^ j) : c / 2 ^ j = c / 2 ^ (j + 1) + (c / 2 ^ j - c / 2 ^ (j + 1) - 1) + 1 ∧ c / 2 ^ j - c / 2 ^ (j + 1) - 1 ≤ c / 2 ^ (j + 1) ∧ c / 2 ^ j ≤ c := by
  have e : c / 2 ^ (j + 1) = c / 2 ^ j / 2 := by rw [Nat.pow_succ, Nat.div_div_eq_div_mul]
  have := Nat.div_le_self c (2 ^ j)
  rw [e]
  omega
end Go.Proofs.YtjohpdobnedilaaDoor

/- What integer.squareRoot does. -/
namespace Go.Proofs.YtjohpdobnedilaaDoor
open Go.RowKit

theorem blen_spec {a : Nat} (h : a ≠ 0) : ∃ l, blen a = l + 1 ∧ 2 ^ l ≤ a ∧ a < 2 ^ (l + 1) := by
  refine ⟨Nat.log2 a, by unfold blen; rw [if_neg h], Nat.log2_self_le h, Nat.lt_log2_self⟩

theorem half_bits {a : Nat} (h : a ≠ 0) : ∃ c : Nat, ((blen a : Int) - 1) / 2 = c ∧ 4 ^ c ≤ a ∧ a < 4 ^ (c + 1) ∧ 2 * c + 1 ≤ blen a := by
  obtain ⟨l, e, l0, l1⟩ := blen_spec h
  refine ⟨l / 2, by rw [e]; omega, ?_, ?_, by omega⟩
  · have := Nat.pow_le_pow_right (show 0 < 2 by omega) (show l / 2 + l / 2 ≤ l by omega)
    rw [four_pow, ← Nat.pow_add]; omega
  · have := Nat.pow_le_pow_right (show 0 < 2 by omega) (show l + 1 ≤ (l / 2 + 1) + (l / 2 + 1) by omega)
    rw [four_pow, ← Nat.pow_add]; omega

theorem blen_limbs {a e : Nat} (h : a < 4294967296 ^ e) : blen a ≤ 32 * e := by
  rw [show 4294967296 ^ e = 2 ^ (32 * e) by rw [Nat.pow_mul]] at h
  by_cases h0 : a = 0
  · unfold blen; rw [if_pos h0]; omega
  · have h1 : blen a = Nat.log2 a + 1 := by unfold blen; rw [if_neg h0]
    have h2 := (Nat.log2_lt h0).2 h
    omega

theorem pow_limbs {k e : Nat} (h : k ≤ 32 * e) : 2 ^ k ≤ 4294967296 ^ e := by
  rw [show 4294967296 ^ e = 2 ^ (32 * e) by rw [Nat.pow_mul]]
  exact Nat.pow_le_pow_right (by omega) h

theorem near_len {a c d x : Nat} (h : Near a c d x) (ha : a < 4294967296 ^ 150) : x < 4294967296 ^ 76 := by
  obtain ⟨_, _, h3, _⟩ := h
  have h5 : a / 4 ^ (c - d) ≤ a := Nat.div_le_self _ _
  have e : (4294967296 : Nat) ^ 150 = 4294967296 ^ 75 * 4294967296 ^ 75 := by rw [← Nat.pow_add]
  rw [e] at ha
  have e2 : (4294967296 : Nat) ^ 76 = 4294967296 ^ 75 * 4294967296 := Nat.pow_succ ..
  rw [e2]
  generalize (4294967296 : Nat) ^ 75 = B at *
  rcases Nat.lt_or_ge x (B * 4294967296) with h | h
  · exact h
  · exfalso
    have hB : 0 < B := by
      rcases Nat.eq_zero_or_pos B with h | h
      · subst h; omega
      · exact h
    have h6 : B + 1 ≤ x := by omega
    have h7 := Nat.mul_le_mul (show B ≤ x - 1 by omega) (show B ≤ x - 1 by omega)
    have c1 : (((x - 1) * (x - 1) : Nat) : Int) = ((x : Int) - 1) * (x - 1) := by rw [Int.natCast_mul, Int.ofNat_sub (by omega)]; rfl
    omega

end Go.Proofs.YtjohpdobnedilaaDoor

/- What integer.Sqrt does for a number that is not negative. -/
namespace Go.Proofs.YtjohpdobnedilaaDoor
open Go.RowKit

end Go.Proofs.YtjohpdobnedilaaDoor
