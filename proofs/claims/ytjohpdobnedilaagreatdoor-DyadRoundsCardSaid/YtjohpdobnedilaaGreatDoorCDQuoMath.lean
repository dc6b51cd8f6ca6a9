/- Rounded quotients enclose the exact one, as plain facts. No program stands here. -/
import Derived.Test.YtjohpdobnedilaaGreatDoorCDNearMath
namespace Go.Proofs.YtjohpdobnedilaaGreatDoor

/-- the factors that a shift puts on the two sides -/
def shV (sh : Int) : Int := if 0 ≤ sh then 2 ^ sh.toNat else 1
def shU (sh : Int) : Int := if 0 ≤ sh then 1 else 2 ^ (-sh).toNat

theorem le_div_iff' {c a d : Int} (hd : 0 < d) : c ≤ a / d ↔ c * d ≤ a := Int.le_ediv_iff_mul_le hd

/-- the quotient with its tail, against even numbers -/
theorem quo_key {M D p : Int} (hM : 0 < M) (hodd : M % 2 = 1) (hD : 0 < D) :
    (∀ c : Int, 2 * c ≤ qtail M D p ↔ c * D * shU (qsh M D p) ≤ M * shV (qsh M D p)) ∧ (∀ c : Int, qtail M D p ≤ 2 * c ↔ M * shV (qsh M D p) ≤ c * D * shU (qsh M D p)) := by
  have eM : (M.natAbs : Int) = M := Int.natAbs_of_nonneg (Int.le_of_lt hM)
  have eD : (D.natAbs : Int) = D := Int.natAbs_of_nonneg (Int.le_of_lt hD)
  unfold qtail shf shU shV
  rw [eM, eD]
  generalize qsh M D p = sh
  by_cases hs : 0 ≤ sh
  · rw [if_pos hs, if_pos hs, if_pos hs]
    rw [decide_eq_false (show ¬ sh < 0 by omega), Bool.false_or]
    generalize M * 2 ^ sh.toNat = A
    have h1 := Int.mul_ediv_add_emod A D
    have h2 := Int.emod_nonneg A (Int.ne_of_gt hD)
    have h3 := Int.emod_lt_of_pos A hD
    have hdi : ∀ c : Int, c ≤ A / D ↔ c * D ≤ A := fun c => le_div_iff' hD
    have hz : (sgn3 (A % D) 0 != 0) = decide (A % D ≠ 0) := by
      rcases Int.lt_or_eq_of_le h2 with h | h
      · rw [sgn3_gt h, decide_eq_true (Int.ne_of_gt h)]; rfl
      · rw [← h, decide_eq_false (by omega)]; rfl
    rw [hz]
    by_cases h0 : A % D = 0
    · rw [if_neg (by simp [h0])]
      have hA : A = A / D * D := by rw [Int.mul_comm]; omega
      refine ⟨fun c => ?_, fun c => ?_⟩
      · rw [Int.mul_one, ← hdi]; omega
      · rw [Int.mul_one]
        constructor
        · intro h
          rw [hA]
          exact Int.mul_le_mul_of_nonneg_right (by omega) (Int.le_of_lt hD)
        · intro h
          rw [hA] at h
          have := Int.le_of_mul_le_mul_right h hD
          omega
    · rw [if_pos (by simp [h0])]
      refine ⟨fun c => ?_, fun c => ?_⟩
      · rw [Int.mul_one, ← hdi]; omega
      · rw [Int.mul_one]
        have h4 : A ≠ c * D := by
          intro h
          rw [h, Int.mul_emod_left] at h0
          exact h0 rfl
        have h5 := hdi c
        constructor
        · intro h
          have : ¬ c ≤ A / D := by omega
          have := mt h5.2 this
          omega
        · intro h
          have : ¬ c * D ≤ A := by omega
          have := mt h5.1 this
          omega
  · rw [if_neg hs, if_neg hs, if_neg hs]
    rw [decide_eq_true (show sh < 0 by omega), Bool.true_or, if_pos rfl]
    obtain ⟨k, hk⟩ : ∃ k : Nat, (-sh).toNat = k + 1 := ⟨(-sh).toNat - 1, by omega⟩
    rw [hk]
    have hp := two_pos (k + 1)
    have hdi : ∀ c : Int, c ≤ M / 2 ^ (k + 1) / D ↔ c * D * 2 ^ (k + 1) ≤ M := fun c => by
      rw [le_div_iff' hD, le_div_iff' hp]
    refine ⟨fun c => ?_, fun c => ?_⟩
    · rw [Int.mul_one, ← hdi]; omega
    · rw [Int.mul_one]
      have h4 : M ≠ c * D * 2 ^ (k + 1) := by
        intro h
        rw [h, Int.pow_succ, ← Int.mul_assoc, Int.mul_emod_left] at hodd
        exact absurd hodd (by decide)
      have h5 := hdi c
      constructor
      · intro h
        have : ¬ c ≤ M / 2 ^ (k + 1) / D := by omega
        have := mt h5.2 this
        omega
      · intro h
        have : ¬ c * D * 2 ^ (k + 1) ≤ M := by omega
        have := mt h5.1 this
        omega

theorem qtail_nonneg {M D p : Int} : 0 ≤ qtail M D p := by
  unfold qtail
  have h1 : 0 ≤ shf (M.natAbs : Int) (qsh M D p) / (D.natAbs : Int) := Int.ediv_nonneg (shf_nonneg (by omega)) (by omega)
  split <;> omega

/-- the quotient has more than p bits -/
theorem qtail_big {M D p : Int} (hM : 0 < M) (hodd : M % 2 = 1) (hD : 0 < D) (hp : 1 ≤ p) : 2 ^ (p.toNat + 1) ≤ qtail M D p := by
  have h1 := (quo_key (p := p) hM hodd hD).1 (2 ^ p.toNat)
  rw [Int.pow_succ, Int.mul_comm, h1]
  obtain ⟨l, hl, hl1, hl2⟩ := blen_spec (show M.natAbs ≠ 0 by omega)
  have hD1 := blen_lt D.natAbs
  have hq : qsh M D p = p + 1 + (blen D.natAbs : Int) - blen M.natAbs := rfl
  rw [hq, hl]
  generalize blen D.natAbs = b at *
  have eM : ((2 ^ l : Nat) : Int) ≤ M := by omega
  have eD : D ≤ ((2 ^ b : Nat) : Int) := by omega
  rw [Int.natCast_pow] at eM eD
  have hP : (0 : Int) < 2 ^ p.toNat := two_pos _
  obtain ⟨P, hPp⟩ : ∃ P : Nat, p = P := ⟨p.toNat, by omega⟩
  subst hPp
  rw [Int.toNat_natCast] at *
  unfold shU shV
  by_cases hs : 0 ≤ (P : Int) + 1 + (b : Int) - ((l + 1 : Nat) : Int)
  · rw [if_pos hs, if_pos hs, Int.mul_one]
    obtain ⟨s, hs2⟩ : ∃ s : Nat, ((P : Int) + 1 + (b : Int) - ((l + 1 : Nat) : Int)).toNat = s := ⟨_, rfl⟩
    rw [hs2]
    have h3 : (2 : Int) ^ P * D ≤ 2 ^ P * 2 ^ b := Int.mul_le_mul_of_nonneg_left eD (Int.le_of_lt hP)
    have h4 : (2 : Int) ^ l * 2 ^ s ≤ M * 2 ^ s := Int.mul_le_mul_of_nonneg_right eM (Int.le_of_lt (two_pos s))
    rw [← Int.pow_add] at h3 h4
    have h5 : l + s = P + b := by omega
    rw [h5] at h4
    exact Int.le_trans h3 h4
  · rw [if_neg hs, if_neg hs, Int.mul_one]
    obtain ⟨s, hs2⟩ : ∃ s : Nat, (-((P : Int) + 1 + (b : Int) - ((l + 1 : Nat) : Int))).toNat = s := ⟨_, rfl⟩
    rw [hs2]
    have h3 : (2 : Int) ^ P * D * 2 ^ s ≤ 2 ^ P * 2 ^ b * 2 ^ s := Int.mul_le_mul_of_nonneg_right (Int.mul_le_mul_of_nonneg_left eD (Int.le_of_lt hP)) (Int.le_of_lt (two_pos s))
    rw [← Int.pow_add, ← Int.pow_add] at h3
    have h5 : P + b + s = l := by omega
    rw [h5] at h3
    exact Int.le_trans h3 eM
end Go.Proofs.YtjohpdobnedilaaGreatDoor
