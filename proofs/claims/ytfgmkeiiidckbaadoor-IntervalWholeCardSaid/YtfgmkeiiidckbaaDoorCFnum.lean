/- Results of rounding are numbers, as plain facts. -/
import Derived.Test.YtfgmkeiiidckbaaDoorGs
import Derived.Test.YtfgmkeiiidckbaaDoorCFsmall
namespace Go.Proofs.YtfgmkeiiidckbaaDoor

theorem kept_lt {N k : Nat} (hk : Nat.log2 N + 1 ≤ 53 + k) : N / 2 ^ k < 9007199254740992 := by
  rw [Nat.div_lt_iff_lt_mul (Nat.pow_pos (by omega)), show (9007199254740992 : Nat) = 2 ^ 53 by decide, ← Nat.pow_add]
  refine Nat.lt_of_lt_of_le (Nat.lt_log2_self (n := N)) (Nat.pow_le_pow_right (by omega) hk)

theorem fla_le (neg : Bool) (N : Nat) (e : Int) (t : Bool) (mode : Int) : fla neg N e t mode ≤ 9218868437227405312 := by
  unfold fla
  split
  · split <;> omega
  · rename_i h
    have hP : fplace N e = max (e + (Nat.log2 N : Int) - 52) (-1074) := rfl
    split
    · rename_i h1
      obtain ⟨k, hk⟩ : ∃ k : Nat, (e - fplace N e).toNat = k := ⟨_, rfl⟩
      obtain ⟨p, hp⟩ : ∃ p : Nat, (fplace N e + 1074).toNat = p := ⟨_, rfl⟩
      rw [hk, hp]
      have hlt : N * 2 ^ k < 9007199254740992 := by
        rw [show (9007199254740992 : Nat) = 2 ^ 53 by decide]
        have h2 : N * 2 ^ k < 2 ^ (Nat.log2 N + 1) * 2 ^ k := Nat.mul_lt_mul_of_pos_right (Nat.lt_log2_self (n := N)) (Nat.pow_pos (by omega))
        rw [← Nat.pow_add] at h2
        exact Nat.lt_of_lt_of_le h2 (Nat.pow_le_pow_right (by omega) (by omega))
      have hp2 : p ≤ 2045 := by omega
      generalize N * 2 ^ k = x at *
      omega
    · rename_i h1
      obtain ⟨k, hk⟩ : ∃ k : Nat, (fplace N e - e).toNat = k := ⟨_, rfl⟩
      obtain ⟨p, hp⟩ : ∃ p : Nat, (fplace N e + 1074).toNat = p := ⟨_, rfl⟩
      rw [hk, hp]
      have hlt := kept_lt (N := N) (k := k) (by omega)
      have hp2 : p ≤ 2045 := by omega
      generalize N / 2 ^ k = x at *
      split <;> omega

theorem nan_mag {f : Nat} (s : Bool) (h : f ≤ 9218868437227405312) : nanB (sgz s + f) = false ∧ sgz s + f < 18446744073709551616 := by
  have h1 := sgz_le s
  have h2 : fmag (sgz s + f) = f := by unfold fmag sgz; split <;> omega
  exact ⟨decide_eq_false (by omega), by omega⟩
theorem cancel_num (mode : Int) : nanB (cancel mode) = false ∧ cancel mode < 18446744073709551616 ∧ fmag (cancel mode) = 0 := by
  unfold cancel
  split <;> decide
theorem rsum_num (S m mode : Int) : nanB (rsum S m mode) = false ∧ rsum S m mode < 18446744073709551616 := by
  unfold rsum
  split
  · exact ⟨(cancel_num mode).1, (cancel_num mode).2.1⟩
  · unfold rnd flr
    have h := fla_le (decide (S < 0)) S.natAbs m false mode
    exact nan_mag (decide (S < 0)) h
theorem fin_not {a : Nat} (h : finB a = true) : nanB a = false ∧ infB a = false := by
  have h1 : fmag a < 9218868437227405312 := of_decide_eq_true h
  exact ⟨decide_eq_false (by omega), decide_eq_false (by omega)⟩
theorem fin_one : finB 4607182418800017408 = true := by decide
theorem fin_sgz (s : Bool) : finB (sgz s) = true ∧ sgz s < 18446744073709551616 ∧ fmag (sgz s) = 0 := by cases s <;> decide
theorem frank_zero {f : Nat} (h : fmag f = 0) : frank f = 0 := by unfold frank; rw [h]; split <;> rfl
end Go.Proofs.YtfgmkeiiidckbaaDoor
