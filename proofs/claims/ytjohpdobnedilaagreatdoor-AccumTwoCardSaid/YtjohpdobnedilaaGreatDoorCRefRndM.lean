/- Rounding to a float as the reference says it, as plain facts. No program stands here. -/
import Derived.Test.YtjohpdobnedilaaGreatDoorCRefCut
import Derived.Test.YtjohpdobnedilaaGreatDoorHd
namespace Go.Proofs.YtjohpdobnedilaaGreatDoor

/-- what is kept of the number, in units of its last place -/
def keptV (neg : Bool) (N : Nat) (e : Int) (mode : Int) : Nat := if fplace N e ≤ e then N * 2 ^ (e - fplace N e).toNat else cutV neg N (fplace N e - e).toNat false mode

theorem fla_kept {neg : Bool} {N : Nat} {e : Int} {mode : Int} (h : ¬ e + (Nat.log2 N : Int) > 1023) : fla neg N e false mode = (fplace N e + 1074).toNat * 4503599627370496 + keptV neg N e mode := by
  unfold fla keptV cutV
  rw [if_neg h]
  split
  · rfl
  · rw [Nat.add_assoc]
theorem cut_zero (neg : Bool) (N : Nat) (mode : Int) : cutV neg N 0 false mode = N := by
  rw [cut_none neg mode (by rw [Nat.pow_zero, Nat.mod_one]), Nat.pow_zero, Nat.div_one]
theorem kept_cut {neg : Bool} {N : Nat} {e : Int} {mode : Int} (h : e ≤ fplace N e) : cutV neg N (fplace N e - e).toNat false mode = keptV neg N e mode := by
  unfold keptV
  by_cases h1 : fplace N e ≤ e
  · have h2 : fplace N e = e := by omega
    rw [if_pos h1, h2, Int.sub_self]
    show cutV neg N 0 false mode = N * 2 ^ 0
    rw [cut_zero, Nat.pow_zero, Nat.mul_one]
  · rw [if_neg h1]
theorem kept_shift {neg : Bool} {N : Nat} {e : Int} {mode : Int} (h : fplace N e < e) : N * 2 ^ (e - fplace N e).toNat = keptV neg N e mode := by
  unfold keptV; rw [if_pos (by omega)]

theorem kept_le {neg : Bool} {N : Nat} {e : Int} {mode : Int} (h0 : N ≠ 0) : keptV neg N e mode ≤ 9007199254740992 ∧ (keptV neg N e mode = 9007199254740992 → fover neg mode = true) ∧ (keptV neg N e mode < 4503599627370496 → fplace N e = -1074) := by
  have l0 := Nat.log2_self_le h0
  have l1 := @Nat.lt_log2_self N
  generalize hl : Nat.log2 N = l at *
  have hp : fplace N e = max (e + (l : Int) - 52) (-1074) := by unfold fplace; rw [hl]
  unfold keptV
  by_cases h1 : fplace N e ≤ e
  · rw [if_pos h1]
    generalize hk : (e - fplace N e).toNat = k
    have hlk : l + k ≤ 52 := by omega
    have a1 : N * 2 ^ k < 2 ^ (l + 1) * 2 ^ k := Nat.mul_lt_mul_of_pos_right l1 (Nat.pow_pos (by omega))
    rw [← Nat.pow_add] at a1
    have a2 : (2 : Nat) ^ (l + 1 + k) ≤ 2 ^ 53 := Nat.pow_le_pow_right (by omega) (by omega)
    refine ⟨by omega, fun h => by omega, fun h => ?_⟩
    rcases Int.lt_or_le (-1074) (fplace N e) with h2 | h2
    · exfalso
      have hlk2 : l + k = 52 := by omega
      have a3 : 2 ^ l * 2 ^ k ≤ N * 2 ^ k := Nat.mul_le_mul_right _ l0
      rw [← Nat.pow_add, hlk2] at a3
      omega
    · omega
  · rw [if_neg h1]
    generalize hk : (fplace N e - e).toNat = k
    have hlk : l ≤ 52 + k := by omega
    have hp2 : 0 < 2 ^ k := Nat.pow_pos (by omega)
    have a1 : N / 2 ^ k < 2 ^ 53 := by
      rw [Nat.div_lt_iff_lt_mul hp2, ← Nat.pow_add]
      exact Nat.lt_of_lt_of_le l1 (Nat.pow_le_pow_right (by omega) (by omega))
    unfold cutV
    refine ⟨by split <;> omega, fun h => ?_, fun h => ?_⟩
    · cases hu : fup neg mode (N / 2 ^ k) (N % 2 ^ k) (2 ^ k) false with
      | false => rw [hu] at h; simp at h; omega
      | true =>
        unfold fup at hu
        unfold fover
        by_cases m1 : mode = 1
        · rw [if_pos m1] at hu ⊢; simp at hu; exact hu.1
        · rw [if_neg m1] at hu ⊢
          by_cases m2 : mode = 2
          · rw [if_pos m2] at hu ⊢; simp at hu; simp [hu.1]
          · rw [if_neg m2] at hu ⊢
            by_cases m3 : mode = 3
            · rw [if_pos m3] at hu; cases hu
            · rw [if_neg m3]
    · rcases Int.lt_or_le (-1074) (fplace N e) with h2 | h2
      · exfalso
        have hlk2 : l = 52 + k := by omega
        have a3 : 2 ^ 52 ≤ N / 2 ^ k := by
          rw [Nat.le_div_iff_mul_le hp2, ← Nat.pow_add, ← hlk2]; exact l0
        omega
      · omega
end Go.Proofs.YtjohpdobnedilaaGreatDoor
