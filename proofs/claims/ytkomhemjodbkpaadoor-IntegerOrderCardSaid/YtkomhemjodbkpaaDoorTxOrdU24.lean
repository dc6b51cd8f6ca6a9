import Derived.Test.YtkomhemjodbkpaaDoorTxOrdU21
import Derived.Test.YtkomhemjodbkpaaDoorTxOrdU23
import Derived.Test.YtkomhemjodbkpaaDoorTxOrdU18
namespace Go.Proofs.YtkomhemjodbkpaaDoor
open Go.RowKit

theorem bitLen_zero : Lib.bitLen 0 = 0 := by unfold Lib.bitLen; unfold Lib.bitLenAux; simp

theorem bitLen_spec (x : Nat) (h0 : x ≠ 0) (h : x < 2 ^ 64) : ∃ l, Lib.bitLen x = l + 1 ∧ 2 ^ l ≤ x ∧ x < 2 ^ (l + 1) := by
  induction x using Nat.strongRecOn with
  | _ x ih =>
    by_cases h1 : x / 2 = 0
    · refine ⟨0, ?_, by omega, by omega⟩
      rw [Lib.bitLen_half x h0 h, h1, bitLen_zero]
    · obtain ⟨l, e, l0, l1⟩ := ih (x / 2) (by omega) h1 (by omega)
      refine ⟨l + 1, ?_, ?_, ?_⟩
      · rw [Lib.bitLen_half x h0 h, e]; omega
      · rw [Nat.pow_succ]; omega
      · rw [Nat.pow_succ] at l1 ⊢; omega

/-- the shift that puts a one into the top bit of the divisor -/
theorem norm_shift {b m : Nat} (hm : (limbs b).length = m + 1) :
    ∃ k : Nat, k < 32 ∧ 32 - (Lib.bitLen ((limbs b).getD m 0).toNat : Int) = (k : Int) ∧ (limbs (b * 2 ^ k)).length = m + 1 ∧ 2147483648 ≤ (limbs (b * 2 ^ k)).getD m 0 := by
  have h1 : b < 4294967296 ^ (m + 1) := (limbs_len_le b (m + 1)).1 (by omega)
  have h2 : 4294967296 ^ m ≤ b := by
    rcases Nat.lt_or_ge b (4294967296 ^ m) with h | h
    · have := (limbs_len_le b m).2 h; omega
    · exact h
  have hpm : 0 < 4294967296 ^ m := Nat.pos_of_ne_zero (by simp)
  have hd1 : b / 4294967296 ^ m < 4294967296 := by
    rw [Nat.div_lt_iff_lt_mul hpm, Nat.mul_comm, ← Nat.pow_succ]; exact h1
  have hd0 : 0 < b / 4294967296 ^ m := Nat.div_pos h2 hpm
  have ht : (limbs b).getD m 0 = ((b / 4294967296 ^ m : Nat) : Int) := by
    rw [limbs_at, Nat.mod_eq_of_lt hd1]
  rw [ht, Int.toNat_natCast]
  generalize htt : b / 4294967296 ^ m = t at *
  obtain ⟨l, e, l0, l1⟩ := bitLen_spec t (by omega) (by omega)
  have hl : l < 32 := by
    rcases Nat.lt_or_ge l 32 with h | h
    · exact h
    · have := Nat.pow_le_pow_right (show 0 < 2 by omega) h
      omega
  refine ⟨31 - l, by omega, by rw [e]; omega, ?_, ?_⟩
  all_goals
    have hp : 2 ^ (31 - l) * 2 ^ l = 2147483648 := by rw [← Nat.pow_add, show 31 - l + l = 31 by omega]
    have hp2 : 2 ^ (31 - l) * 2 ^ (l + 1) = 4294967296 := by rw [← Nat.pow_add, show 31 - l + (l + 1) = 32 by omega]
    have hk0 : 0 < 2 ^ (31 - l) := Nat.pos_of_ne_zero (by simp)
    -- b 2^k / R^m = ..
    have hb1 : b < (t + 1) * 4294967296 ^ m := by
      rw [← htt, Nat.add_mul, Nat.one_mul, Nat.mul_comm (b / 4294967296 ^ m)]
      have := Nat.div_add_mod b (4294967296 ^ m)
      have := Nat.mod_lt b hpm
      omega
    have hb0 : t * 4294967296 ^ m ≤ b := by rw [← htt]; exact Nat.div_mul_le_self _ _
    have hv1 : b * 2 ^ (31 - l) < 4294967296 ^ (m + 1) := by
      have a1 : b * 2 ^ (31 - l) < (t + 1) * 4294967296 ^ m * 2 ^ (31 - l) := Nat.mul_lt_mul_of_pos_right hb1 hk0
      have a2 : (t + 1) * 4294967296 ^ m * 2 ^ (31 - l) ≤ 2 ^ (l + 1) * 4294967296 ^ m * 2 ^ (31 - l) := Nat.mul_le_mul_right _ (Nat.mul_le_mul_right _ (by omega))
      have a3 : 2 ^ (l + 1) * 4294967296 ^ m * 2 ^ (31 - l) = 4294967296 ^ (m + 1) := by
        rw [Nat.mul_right_comm, Nat.mul_comm (2 ^ (l + 1)), hp2, Nat.pow_succ, Nat.mul_comm]
      omega
    have hv0 : 2147483648 * 4294967296 ^ m ≤ b * 2 ^ (31 - l) := by
      have a1 : 2 ^ l * 4294967296 ^ m * 2 ^ (31 - l) ≤ b * 2 ^ (31 - l) := Nat.mul_le_mul_right _ (Nat.le_trans (Nat.mul_le_mul_right _ l0) hb0)
      have a3 : 2 ^ l * 4294967296 ^ m * 2 ^ (31 - l) = 2147483648 * 4294967296 ^ m := by
        rw [Nat.mul_right_comm, Nat.mul_comm (2 ^ l), hp]
      omega
  · have g1 := (limbs_len_le (b * 2 ^ (31 - l)) (m + 1)).2 hv1
    rcases Nat.lt_or_ge (limbs (b * 2 ^ (31 - l))).length (m + 1) with h | h
    · exfalso
      have g2 := (limbs_len_le (b * 2 ^ (31 - l)) m).1 (by omega)
      omega
    · omega
  · rw [limbs_at]
    have g1 : 2147483648 ≤ b * 2 ^ (31 - l) / 4294967296 ^ m := (Nat.le_div_iff_mul_le hpm).2 hv0
    have g2 : b * 2 ^ (31 - l) / 4294967296 ^ m < 4294967296 := by
      rw [Nat.div_lt_iff_lt_mul hpm]
      rw [Nat.pow_succ, Nat.mul_comm (4294967296 ^ m)] at hv1
      exact hv1
    rw [Nat.mod_eq_of_lt g2]
    omega

/-- from limb j on the quotient stands in Q, and what is left in U is less than v at that place -/
def Knuth (u v : Int) (U Q : List Int) (nu nq j : Nat) : Prop :=
  U.length = nu ∧ Q.length = nq ∧ Wf U ∧ Wf Q ∧ u = num U + v * (4294967296 ^ j * num (Q.drop j)) ∧ num U < v * 4294967296 ^ j

theorem Knuth.window {u v : Int} {U Q : List Int} {nu nq t m : Nat} (h : Knuth u v U Q nu nq (t + 1)) (hv1 : v < 4294967296 ^ m) (hl : t + (m + 1) ≤ nu) :
    num U = num (U.take t) + 4294967296 ^ t * num ((U.drop t).take (m + 1)) ∧ num (U.drop (t + (m + 1))) = 0 ∧ num ((U.drop t).take (m + 1)) < v * 4294967296 := by
  obtain ⟨h1, h2, h3, h4, h5, h6⟩ := h
  have e1 := num_append (U.take t) (U.drop t)
  have e2 := num_append ((U.drop t).take (m + 1)) ((U.drop t).drop (m + 1))
  rw [List.take_append_drop, List.length_take, Nat.min_eq_left (by omega)] at e1
  rw [List.take_append_drop, List.length_take, List.length_drop, Nat.min_eq_left (by omega), List.drop_drop] at e2
  have p0 := num_nonneg (h3.take t)
  have v0 := num_nonneg ((h3.drop t).take (m + 1))
  have t0 := num_nonneg (h3.drop (t + (m + 1)))
  have hpt := pow_pos' t
  have hT : num (U.drop (t + (m + 1))) = 0 := by
    rcases Int.lt_or_eq_of_le t0 with hlt | heq
    · exfalso
      have a1 : (4294967296 : Int) ^ (m + 1) * 1 ≤ 4294967296 ^ (m + 1) * num (U.drop (t + (m + 1))) := Int.mul_le_mul_of_nonneg_left (by omega) (Int.le_of_lt (pow_pos' _))
      have a2 : (4294967296 : Int) ^ t * 4294967296 ^ (m + 1) ≤ 4294967296 ^ t * num (U.drop t) := Int.mul_le_mul_of_nonneg_left (by omega) (Int.le_of_lt hpt)
      have a3 : v * 4294967296 ^ (t + 1) ≤ 4294967296 ^ t * 4294967296 ^ (m + 1) := by
        have := Int.mul_le_mul_of_nonneg_right (Int.le_of_lt hv1) (Int.le_of_lt (pow_pos' (t + 1)))
        have e : (4294967296 : Int) ^ m * 4294967296 ^ (t + 1) = 4294967296 ^ t * 4294967296 ^ (m + 1) := by
          rw [← Int.pow_add, ← Int.pow_add, show m + (t + 1) = t + (m + 1) by omega]
        rw [e] at this
        exact this
      omega
    · exact heq.symm
  rw [hT, Int.mul_zero, Int.add_zero] at e2
  rw [e2] at e1
  refine ⟨e1, hT, ?_⟩
  rcases lt_or_ge_int (num ((U.drop t).take (m + 1))) (v * 4294967296) with hlt | hge
  · exact hlt
  · exfalso
    have a1 := Int.mul_le_mul_of_nonneg_left hge (Int.le_of_lt hpt)
    have a2 : (4294967296 : Int) ^ t * (v * 4294967296) = v * 4294967296 ^ (t + 1) := by rw [Int.pow_succ, Int.mul_left_comm]
    omega

theorem Knuth.step {u v : Int} {U Q V' : List Int} {nu nq t m : Nat} (h : Knuth u v U Q nu nq (t + 1)) (hv0 : 0 < v) (hv1 : v < 4294967296 ^ m) (hl : t + (m + 1) ≤ nu) (hq : t < nq)
    (hV : V'.length = m + 1) (hwf : Wf V') (hr : num V' = num ((U.drop t).take (m + 1)) % v) :
    Knuth u v (U.take t ++ (V' ++ U.drop (t + (m + 1)))) (Q.set t (num ((U.drop t).take (m + 1)) / v)) nu nq t := by
  obtain ⟨w1, w2, w3⟩ := h.window hv1 hl
  obtain ⟨h1, h2, h3, h4, h5, h6⟩ := h
  have v0 := num_nonneg ((h3.drop t).take (m + 1))
  have p0 := num_nonneg (h3.take t)
  have p1 := num_lt (h3.take t)
  rw [List.length_take, Nat.min_eq_left (by omega)] at p1
  have hdm := Int.mul_ediv_add_emod (num ((U.drop t).take (m + 1))) v
  have r0 : 0 ≤ num ((U.drop t).take (m + 1)) % v := Int.emod_nonneg _ (by omega)
  have r1 : num ((U.drop t).take (m + 1)) % v < v := Int.emod_lt_of_pos _ hv0
  have q0 : 0 ≤ num ((U.drop t).take (m + 1)) / v := Int.ediv_nonneg v0 (Int.le_of_lt hv0)
  have q1 : num ((U.drop t).take (m + 1)) / v < 4294967296 := Int.ediv_lt_of_lt_mul hv0 (by rw [Int.mul_comm]; exact w3)
  have eU : num (U.take t ++ (V' ++ U.drop (t + (m + 1)))) = num (U.take t) + 4294967296 ^ t * num V' := by
    rw [num_append, num_append, w2, List.length_take, Nat.min_eq_left (by omega)]
    simp
  have hpt := pow_pos' t
  refine ⟨by simp [h1, hV]; omega, by simpa using h2, (h3.take t).append (hwf.append (h3.drop _)), h4.set _ ⟨q0, q1⟩, ?_, ?_⟩
  · rw [eU, hr, h5, w1, num_drop' (Q.set t _) t (by simp [h2]; omega), List.drop_set_of_lt (by omega), getD_set _ _ _ _ (by omega), if_pos rfl]
    generalize num ((U.drop t).take (m + 1)) = A at *
    generalize num (Q.drop (t + 1)) = C at *
    generalize num (U.take t) = D at *
    have e1 : v * (4294967296 ^ t * (A / v + 4294967296 * C)) = 4294967296 ^ t * (v * (A / v)) + v * (4294967296 ^ (t + 1) * C) := by
      rw [Int.mul_add (4294967296 ^ t), Int.mul_add v, Int.mul_left_comm v, Int.pow_succ, Int.mul_assoc]
    have e2 : (4294967296 : Int) ^ t * A = 4294967296 ^ t * (v * (A / v)) + 4294967296 ^ t * (A % v) := by rw [← Int.mul_add, hdm]
    rw [e1, e2]
    omega
  · rw [eU, hr]
    generalize num ((U.drop t).take (m + 1)) = A at *
    have a1 : (4294967296 : Int) ^ t * (A % v + 1) ≤ 4294967296 ^ t * v := Int.mul_le_mul_of_nonneg_left (by omega) (Int.le_of_lt hpt)
    rw [Int.mul_add, Int.mul_one, Int.mul_comm (4294967296 ^ t) v] at a1
    omega

end Go.Proofs.YtkomhemjodbkpaaDoor
