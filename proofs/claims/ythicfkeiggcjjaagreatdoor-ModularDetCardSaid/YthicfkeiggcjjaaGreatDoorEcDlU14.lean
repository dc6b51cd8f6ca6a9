import Derived.Test.YthicfkeiggcjjaaGreatDoorEcDlU11
import Derived.Test.YthicfkeiggcjjaaGreatDoorEcDlU13
import Derived.Test.YthicfkeiggcjjaaGreatDoorEcDlU9
namespace Go.Proofs.YthicfkeiggcjjaaGreatDoor
open Go.RowKit

theorem bitLen_zero : Lib.bitLen 0 = 0 := by unfold Lib.bitLen; unfold Lib.bitLenAux; simp

theorem bitLen_spec (x : Nat) (h0 : x ≠ 0) (h : x < 2 ^ 64) : ∃ l, Lib.bitLen x = l + 1 ∧ 2 ^ l ≤ x ∧ x < 2 ^ (l + 1) := by
  induction x using Nat.strongRecOn with
  | _ x ih =>
    by_cases h1 : x / 2 = 0
    · refine ⟨0, ?_, by omega, by omega⟩
      rw [Lib.bitLen_half x h0 h, h1, bitLen_zero]
    · obtain ⟨l, e, l0, l1⟩ := ih (x / 2) (by omega) h1 (by omega)
      refine ⟨l + 1, ?_, ?_, ?_⟩
      · rw [Lib.bitLen_half x h0 h, e]; omega
      · rw [Nat.pow_succ]; omega
      · rw [Nat.pow_succ] at l1 ⊢; omega

/-- the shift that puts a one into the top bit of the divisor -/
theorem norm_shift {b m : Nat} (hm : (limbs b).length = m + 1) :
    ∃ k : Nat, k < 32 ∧ 32 - (Lib.bitLen ((limbs b).getD m 0).toNat : Int) = (k : Int) ∧ (limbs (b * 2 ^ k)).length = m + 1 ∧ 2147483648 ≤ (limbs (b * 2 ^ k)).getD m 0 := by
  have h1 : b < 4294967296 ^ (m + 1) := (limbs_len_le b (m + 1)).1 (by omega)
  have h2 : 4294967296 ^ m ≤ b := by
    rcases Nat.lt_or_ge b (4294967296 ^ m) with h | h
    · have := (limbs_len_le b m).2 h; omega
    · exact h
  have hpm : 0 < 4294967296 ^ m := Nat.pos_of_ne_zero (by simp)
  have hd1 : b / 4294967296 ^ m < 4294967296 := by
    rw [Nat.div_lt_iff_lt_mul hpm, Nat.mul_comm, ← Nat.pow_succ]; exact h1
  have hd0 : 0 < b / 4294967296 ^ m := Nat.div_pos h2 hpm
  have ht : (limbs b).getD m 0 = ((b / 4294967296 ^ m : Nat) : Int) := by
    rw [limbs_at, Nat.mod_eq_of_lt hd1]
  rw [ht, Int.toNat_natCast]
  generalize htt : b / 4294967296 ^ m = t at *
  obtain ⟨l, e, l0, l1⟩ := bitLen_spec t (by omega) (by omega)
  have hl : l < 32 := by
    rcases Nat.lt_or_ge l 32 with h | h
    · exact h
    · have := Nat.pow_le_pow_right (show 0 < 2 by omega) h
      omega
  refine ⟨31 - l, by omega, by rw [e]; omega, ?_, ?_⟩
  all_goals
    have hp : 2 ^ (31 - l) * 2 ^ l = 2147483648 := by rw [← Nat.pow_add, show 31 - l + l = 31 by omega]
    have hp2 : 2 ^ (31 - l) * 2 ^ (l + 1) = 4294967296 := by rw [← Nat.pow_add, show 31 - l + (l + 1) = 32 by omega]
    have hk0 : 0 < 2 ^ (31 - l) := Nat.pos_of_ne_zero (by simp)
    -- b 2^k / R^m = ..
    have hb1 : b < (t + 1) * 4294967296 ^ m := by
      rw [← htt, Nat.add_mul, Nat.one_mul, Nat.mul_comm (b / 4294967296 ^ m)]
      have := Nat.div_add_mod b (4294967296 ^ m)
      have := Nat.mod_lt b hpm
      omega
    have hb0 : t * 4294967296 ^ m ≤ b := by rw [← htt]; exact Nat.div_mul_le_self _ _
    have hv1 : b * 2 ^ (31 - l) < 4294967296 ^ (m + 1) := by
      have a1 : b * 2 ^ (31 - l) < (t + 1) * 4294967296 ^ m * 2 ^ (31 - l) := Nat.mul_lt_mul_of_pos_right hb1 hk0
      have a2 : (t + 1) * 4294967296 ^ m * 2 ^ (31 - l) ≤ 2 ^ (l + 1) * 4294967296 ^ m * 2 ^ (31 - l) := Nat.mul_le_mul_right _ (Nat.mul_le_mul_right _ (by omega))
      have a3 : 2 ^ (l + 1) * 4294967296 ^ m * 2 ^ (31 - l) = 4294967296 ^ (m + 1) := by
        rw [Nat.mul_right_comm, Nat.mul_comm (2 ^ (l + 1)), hp2, Nat.pow_succ, Nat.mul_comm]
      omega
    have hv0 : 2147483648 * 4294967296 ^ m ≤ b * 2 ^ (31 - l) := by
      have a1 : 2 ^ l * 4294967296 ^ m * 2 ^ (31 - l) ≤ b * 2 ^ (31 - l) := Nat.mul_le_mul_right _ (Nat.le_trans (Nat.mul_le_mul_right _ l0) hb0)
      have a3 : 2 ^ l * 4294967296 ^ m * 2 ^ (31 - l) = 2147483648 * 4294967296 ^ m := by
        rw [Nat.mul_right_comm, Nat.mul_comm (2 ^ l), hp]
      omega
  · have g1 := (limbs_len_le (b * 2 ^ (31 - l)) (m + 1)).2 hv1
    rcases Nat.lt_or_ge (limbs (b * 2 ^ (31 - l))).length (m + 1) with h | h
    · exfalso
      have g2 := (limbs_len_le (b * 2 ^ (31 - l)) m).1 (by omega)
      omega
    · omega
  · rw [limbs_at]
    have g1 : 2147483648 ≤ b * 2 ^ (31 - l) / 4294967296 ^ m := (Nat.le_div_iff_mul_le hpm).2 hv0
    have g2 : b * 2 ^ (31 - l) / 4294967296 ^ m < 4294967296 := by
      rw [Nat.div_lt_iff_lt_mul hpm]
      rw [Nat.pow_succ, Nat.mul_comm (4294967296 ^ m)] at hv1
      exact hv1
    rw [Nat.mod_eq_of_lt g2]
    omega

/-- from limb j on the quotient stands in Q, and what is left in U is less than v at that place -/
def Knuth (u v : Int) (U Q : List Int) (nu nq j : Nat) : Prop :=
  U.length = nu ∧ Q.length = nq ∧ Wf U ∧ Wf Q ∧ u = num U + v * (4294967296 ^ j * num (Q.drop j)) ∧ num U < v * 4294967296 ^ j

theorem Knuth.window {u v : Int} {U Q : List Int} {nu nq t m : Nat} (h : Knuth u v U Q nu nq (t + 1)) (hv1 : v < 4294967296 ^ m) (hl : t + (m + 1) ≤ nu) :
    num U = num (U.take t) + 4294967296 ^ t * num ((U.drop t).take (m + 1)) ∧ num (U.drop (t + (m + 1))) = 0 ∧ num ((U.drop t).take (m + 1)) < v * 4294967296 := by
  obtain ⟨h1, h2, h3, h4, h5, h6⟩ := h
  have e1 := num_append (U.take t) (U.drop t)
  have e2 := num_append ((U.drop t).take (m + 1)) ((U.drop t).drop (m + 1))
  rw [List.take_append_drop, List.length_take, Nat.min_eq_left (by omega)] at e1
  rw [List.take_append_drop, List.length_take, List.length_drop, Nat.min_eq_left (by omega), List.drop_drop] at e2
  have p0 := num_nonneg (h3.take t)
  have v0 := num_nonneg ((h3.drop t).take (m + 1))
  have t0 := num_nonneg (h3.drop (t + (m + 1)))
  have hpt := pow_pos' t
  have hT : num (U.drop (t + (m + 1))) = 0 := by
    rcases Int.lt_or_eq_of_le t0 with hlt | heq
    · exfalso
      have a1 : (4294967296 : Int) ^ (m + 1) * 1 ≤ 4294967296 ^ (m + 1) * num (U.drop (t + (m + 1))) := Int.mul_le_mul_of_nonneg_left (by omega) (Int.le_of_lt (pow_pos' _))
      have a2 : (4294967296 : Int) ^ t * 4294967296 ^ (m + 1) ≤ 4294967296 ^ t * num (U.drop t) := Int.mul_le_mul_of_nonneg_left (by omega) (Int.le_of_lt hpt)
      have a3 : v * 4294967296 ^ (t + 1) ≤ 4294967296 ^ t * 4294967296 ^ (m + 1) := by
        have := Int.mul_le_mul_of_nonneg_right (Int.le_of_lt hv1) (Int.le_of_lt (pow_pos' (t + 1)))
        have e : (4294967296 : Int) ^ m * 4294967296 ^ (t + 1) = 4294967296 ^ t * 4294967296 ^ (m + 1) := by
          rw [← Int.pow_add, ← Int.pow_add, show m + (t + 1) = t + (m + 1) by omega]
        rw [e] at this
        exact this
      omega
    · exact heq.symm
  rw [hT, Int.mul_zero, Int.add_zero] at e2
  rw [e2] at e1
  refine ⟨e1, hT, ?_⟩
  rcases lt_or_ge_int (num ((U.drop t).take (m + 1))) (v * 4294967296) with hlt | hge
  · exact hlt
  · exfalso
    have a1 := Int.mul_le_mul_of_nonneg_left hge (Int.le_of_lt hpt)
    have a2 : (4294967296 : Int) ^ t * (v * 4294967296) = v * 4294967296 ^ (t + 1) := by rw [Int.pow_succ, Int.mul_left_comm]
    omega

theorem Knuth.step {u v : Int} {U Q V' : List Int} {nu nq t m : Nat} (h : Knuth u v U Q nu nq (t + 1)) (hv0 : 0 < v) (hv1 : v < 4294967296 ^ m) (hl : t + (m + 1) ≤ nu) (hq : t < nq)
    (hV : V'.length = m + 1) (hwf : Wf V') (hr : num V' = num ((U.drop t).take (m + 1)) % v) :
    Knuth u v (U.take t ++ (V' ++ U.drop (t + (m + 1)))) (Q.set t (num ((U.drop t).take (m + 1)) / v)) nu nq t := by
  obtain ⟨w1, w2, w3⟩ := h.window hv1 hl
  obtain ⟨h1, h2, h3, h4, h5, h6⟩ := h
  have v0 := num_nonneg ((h3.drop t).take (m + 1))
  have p0 := num_nonneg (h3.take t)
  have p1 := num_lt (h3.take t)
  rw [List.length_take, Nat.min_eq_left (by omega)] at p1
  have hdm := Int.mul_ediv_add_emod (num ((U.drop t).take (m + 1))) v
  have r0 : 0 ≤ num ((U.drop t).take (m + 1)) % v := Int.emod_nonneg _ (by omega)
  have r1 : num ((U.drop t).take (m + 1)) % v < v := Int.emod_lt_of_pos _ hv0
  have q0 : 0 ≤ num ((U.drop t).take (m + 1)) / v := Int.ediv_nonneg v0 (Int.le_of_lt hv0)
  have q1 : num ((U.drop t).take (m + 1)) / v < 4294967296 := Int.ediv_lt_of_lt_mul hv0 (by rw [Int.mul_comm]; exact w3)
  have eU : num (U.take t ++ (V' ++ U.drop (t + (m + 1)))) = num (U.take t) + 4294967296 ^ t * num V' := by
    rw [num_append, num_append, w2, List.length_take, Nat.min_eq_left (by omega)]
    simp
  have hpt := pow_pos' t
  refine ⟨by simp [h1, hV]; omega, by simpa using h2, (h3.take t).append (hwf.append (h3.drop _)), h4.set _ ⟨q0, q1⟩, ?_, ?_⟩
  · rw [eU, hr, h5, w1, num_drop' (Q.set t _) t (by simp [h2]; omega), List.drop_set_of_lt (by omega), getD_set _ _ _ _ (by omega), if_pos rfl]
    generalize num ((U.drop t).take (m + 1)) = A at *
    generalize num (Q.drop (t + 1)) = C at *
    generalize num (U.take t) = D at *
    have e1 : v * (4294967296 ^ t * (A / v + 4294967296 * C)) = 4294967296 ^ t * (v * (A / v)) + v * (4294967296 ^ (t + 1) * C) := by
      rw [Int.mul_add (4294967296 ^ t), Int.mul_add v, Int.mul_left_comm v, Int.pow_succ, Int.mul_assoc]
    have e2 : (4294967296 : Int) ^ t * A = 4294967296 ^ t * (v * (A / v)) + 4294967296 ^ t * (A % v) := by rw [← Int.mul_add, hdm]
    rw [e1, e2]
    omega
  · rw [eU, hr]
    generalize num ((U.drop t).take (m + 1)) = A at *
    have a1 : (4294967296 : Int) ^ t * (A % v + 1) ≤ 4294967296 ^ t * v := Int.mul_le_mul_of_nonneg_left (by omega) (Int.le_of_lt hpt)
    rw [Int.mul_add, Int.mul_one, Int.mul_comm (4294967296 ^ t) v] at a1
    omega

set_option maxRecDepth 100000 in
set_option maxHeartbeats 4000000 in
theorem divide_long (a b : Nat) (ao bo : Option Addr) (n mm ca cb : Nat) (w : World) (ha : Sl w ao n ca (limbs a)) (hb : Sl w bo (mm + 2) cb (limbs b)) (hab : b ≤ a) (hn : n ≤ 100000000) :
    Calls Tryz.prog 95 #[.slice ao n ca, .slice bo (mm + 2) cb] w fun e w' => ∃ qo qk qc ro rk rc, e = .returned (.tuple #[.slice qo qk qc, .slice ro rk rc]) ∧
      Sl w' qo qk qc (limbs (a / b)) ∧ Sl w' ro rk rc (limbs (a % b)) ∧ Below w.heap.size w w' := by
  have hs : decide (sgn3 (a : Int) b < 0) = false := by simp [sgn3]; omega
  have hmn : mm + 2 ≤ n := by
    have := limbs_mono hab
    rw [ha.len, hb.len] at this
    exact this
  obtain ⟨k, hk, hlz, hvl, hvt⟩ := norm_shift (b := b) (m := mm + 1) (by rw [hb.len])
  obtain ⟨bb, ob, rfl, hc⟩ := hb.cells (by rw [hb.len]; omega)
  have c1 := hc (mm + 1) (by rw [hb.len]; omega)
  clear hc
  have hxr := (Wf.limbs b).getD (mm + 1)
  obtain ⟨x, hx⟩ : ∃ x, (limbs b).getD (mm + 1) 0 = x := ⟨_, rfl⟩
  rw [hx] at c1 hxr hlz
  have HX := Lib.hid hx; clear hx
  obtain ⟨x0, x1⟩ := hxr
  have HLZ := Lib.hid hlz; clear hlz
  have H := Lib.hid hab; clear hab
  have em : (((mm : Int) + 2) == 1) = false := by apply beq_eq_false_iff_ne.2; omega
  go_enter Tryz.func95, Tryz.ntmps95
  go_wp2_with fail
  refine (compare_any _ _ _ _ _ _ _ _ _ ha hb).mono ?_
  rintro e w1 ⟨rfl, q, rfl⟩
  have hbl := hb.len
  obtain ⟨W1, hW1, hq⟩ := drewN_world w q
  rw [hW1]
  clear hW1
  have ha1 := ha.below hq
  have hb1 := hb.below hq
  have c2 : W1.cell? ⟨bb, ob + (mm + 1), none⟩ = some (.int .u32 x) := by rw [hq.cell (p := ⟨bb, ob + (mm + 1), none⟩) (lt_of_cell c1)]; exact c1
  go_wp2_with fail
  refine (Tryz.bits_LeadingZeros32 x _ x0 (by omega)).mono ?_
  rintro e w2 ⟨rfl, rfl⟩
  rw [HLZ.out]
  go_wp2_with fail
  refine (shiftUp_any b k _ _ _ _ hb1 (by omega) (by omega)).mono ?_
  rintro e W2 ⟨vo, vn, vc, rfl, hv2, hw2⟩
  have hvn : vn = mm + 2 := by rw [← hv2.len, hvl]
  subst hvn
  have ha2 := ha1.below hw2
  have hB2 := hq.trans (hw2.mono hq.size)
  clear c1 c2 hb1 ha1 hb hq hw2
  go_wp2_with (refine wpList_make_u32 _ rfl _ _ rfl _ (n + 1) rfl rfl (by omega) (by omega) ?_)
  intro W3 hb3 hw3
  have ha3 := ha2.below hw3
  generalize hg : W2.heap.size = g at *
  have HG := Lib.hid hg; clear hg
  have hg3 := hb3.lt
  go_wp2_with fail
  refine (shiftUp_any a k _ _ _ _ ha3 (by omega) (by omega)).mono ?_
  rintro e W4 ⟨uo, un, uc, rfl, hu4, hw4⟩
  have hb4 := hb3.below hw4
  have hg4 := hw4.size
  have hun : un ≤ n + 1 := by
    rw [← hu4.len]
    have h1 := (limbs_len_le a n).1 (by rw [ha2.len]; exact Nat.le_refl _)
    refine (limbs_len_le _ _).2 ?_
    have h2 : 2 ^ k < 4294967296 := by
      have := Nat.pow_lt_pow_right (show 1 < 2 by omega) hk
      omega
    calc a * 2 ^ k < 4294967296 ^ n * 2 ^ k := Nat.mul_lt_mul_of_pos_right h1 (Nat.pos_of_ne_zero (by simp))
      _ ≤ 4294967296 ^ n * 4294967296 := Nat.mul_le_mul_left _ (Nat.le_of_lt h2)
      _ = _ := (Nat.pow_succ ..).symm
  go_wp2_with (with_reducible refine wpList_copy_u32 rfl (.tmp 42) (.tmp 45) rfl Tryz.underlying50 Tryz.sizeU32 g 0 (n + 1) (n + 1) uo un uc rfl rfl _ hb4 _ hu4 hun (by simp; omega) ?_)
  intro W5 hb5 hw5
  have hg5 : W4.heap.size ≤ W5.heap.size := Nat.le_of_eq hw5.size.symm
  have hB5 : Below g W2 W5 := (hw3.trans (hw4.mono (by omega))).trans (hw5.below (Nat.le_refl _))
  obtain ⟨U0, hU0⟩ : ∃ U0, splice (List.replicate (n + 1) 0) 0 (limbs (a * 2 ^ k)) = U0 := ⟨_, rfl⟩
  rw [hU0] at hb5
  have hU0l : U0.length = n + 1 := by
    have := hu4.len
    rw [← hU0]; simp [splice]; omega
  have hU0w : Wf U0 := by
    rw [← hU0]; simp only [splice, List.take_zero, List.nil_append]
    exact (Wf.limbs _).append ((Wf.replicate _).drop _)
  have hU0n : num U0 = ((a * 2 ^ k : Nat) : Int) := by
    rw [← hU0]; simp only [splice, List.take_zero, List.nil_append]
    rw [num_append, List.drop_replicate, num_replicate, num_limbs]; simp
  have HU0 := Lib.hid hU0; clear hU0 hun hu4 hw4 hw5 hb4 hb3 ha3 hw3 ha2
  obtain ⟨nq, hnq⟩ : ∃ nq : Nat, (n : Int) - (mm + 2) + 1 = nq := ⟨n - (mm + 2) + 1, by omega⟩
  have HNQ := Lib.hid hnq
  have hnq1 : nq ≤ 100000000 := by omega
  go_wp2_with (refine wpList_make_u32 _ rfl _ _ rfl _ nq rfl rfl (by omega) (by omega) ?_)
  intro W6 hb6 hw6
  have hbu := hb5.below hw6
  have hB6 := hB5.trans (hw6.mono (by omega))
  generalize hgq : W5.heap.size = gq at *
  have HGQ := Lib.hid hgq; clear hgq
  clear hw6 hb5 hB5
  have hgg : g < gq := by omega
  have hgg' : g ≠ gq := by omega
  have v0 : (0 : Int) < ((b * 2 ^ k : Nat) : Int) := by
    have h1 : b ≠ 0 := by rintro rfl; rw [limbs_zero] at hbl; cases hbl
    have := Nat.mul_pos (Nat.pos_of_ne_zero h1) (show 0 < 2 ^ k from Nat.pos_of_ne_zero (by simp))
    omega
  have v1 : ((b * 2 ^ k : Nat) : Int) < 4294967296 ^ (mm + 2) := by
    have h1 := (limbs_len_le (b * 2 ^ k) (mm + 2)).1 (by rw [hvl]; exact Nat.le_refl _)
    have h2 := Int.ofNat_lt.2 h1
    rw [Int.natCast_pow] at h2
    exact h2
  have hstart : Knuth ((a * 2 ^ k : Nat) : Int) ((b * 2 ^ k : Nat) : Int) U0 (List.replicate nq 0) (n + 1) nq nq := by
    refine ⟨hU0l, by simp, hU0w, Wf.replicate _, ?_, ?_⟩
    · rw [hU0n, List.drop_eq_nil_of_le (by simp)]; simp [num]
    · rw [hU0n]
      have h1 := (limbs_len_le a n).1 (by rw [ha.len]; exact Nat.le_refl _)
      have h2 : 4294967296 ^ (mm + 1) ≤ b := by
        rcases Nat.lt_or_ge b (4294967296 ^ (mm + 1)) with h | h
        · have := (limbs_len_le b (mm + 1)).2 h; omega
        · exact h
      have h3 : a * 2 ^ k < b * 2 ^ k * 4294967296 ^ nq := by
        have e : n = mm + 1 + nq := by omega
        rw [e, Nat.pow_add] at h1
        have h4 := Nat.mul_le_mul_right (4294967296 ^ nq) h2
        have h5 := Nat.mul_lt_mul_of_pos_right (Nat.lt_of_lt_of_le h1 h4) (show 0 < 2 ^ k from Nat.pos_of_ne_zero (by simp))
        rwa [Nat.mul_right_comm] at h5
      have h4 := Int.ofNat_lt.2 h3
      rw [Int.natCast_mul (b * 2 ^ k), Int.natCast_pow] at h4
      exact h4
  have HV0 := Lib.hid v0; clear v0
  have HV1 := Lib.hid v1; clear v1
  have HNQ' := Lib.hid hnq; clear hnq
  go_wp2
  go_loopw [9] (fun i wr => ∃ (j : Nat) (U Q : List Int), j ≤ nq ∧ i = .int .i64 ((j : Int) - 1) ∧ Knuth ((a * 2 ^ k : Nat) : Int) ((b * 2 ^ k : Nat) : Int) U Q (n + 1) nq j ∧ Blk wr g U ∧ Blk wr gq Q ∧ Below g W2 wr)
    (fun i _ => (intOf i + 1).toNat)
  case atStart => exact ⟨nq, U0, _, Nat.le_refl _, rfl, hstart, hbu, hb6, hB6⟩
  case round =>
    obtain ⟨j, U, Q, hj, rfl, hK, hbu, hbq, hB⟩ := hrel
    have HK := Lib.hid hK; clear hK
    by_cases hlt : 0 < j
    · obtain ⟨t, rfl⟩ : ∃ t, j = t + 1 := ⟨j - 1, by omega⟩
      have ej : ((t + 1 : Nat) : Int) - 1 = (t : Int) := by omega
      rw [ej]
      clear ej
      have c3 := hbq.frozen t
      have c2 := hbq.cell t (by rw [HK.out.2.1]; omega)
      have hcap : (t : Int) + (mm + 2) + 1 ≤ n + 1 := by have := HNQ.out; omega
      have hfit : t + (mm + 1 + 1 + 1) ≤ n + 1 := by omega
      have hUl := HK.out.1
      have hQl := HK.out.2.1
      have hwU := HK.out.2.2.1
      go_wp2_with fail
      rw [show t + (mm + 2) + 1 - t = mm + 2 + 1 by omega]
      have hdiv := hv2.cells.stay_below (g := g) (hB.mono (Nat.le_of_eq HG.out)) (by rw [HG.out]; exact Nat.le_refl _)
      have hwin := HK.out.window (m := mm + 2) HV1.out hfit
      have hsplit : U = U.take t ++ ((U.drop t).take (mm + 2 + 1) ++ U.drop (t + (mm + 2 + 1))) := by
        rw [← List.drop_drop, List.take_append_drop, List.take_append_drop]
      have hmid : Mid wr g (U.take t) ((U.drop t).take (mm + 2 + 1)) (U.drop (t + (mm + 2 + 1))) := by
        unfold Mid; rw [← hsplit]; exact hbu
      refine (reduce_any g t mm _ _ (U.take t) ((U.drop t).take (mm + 2 + 1)) (U.drop (t + (mm + 2 + 1))) (limbs (b * 2 ^ k)) _ _ (by rw [List.length_take]; omega) (by rw [List.length_take, List.length_drop]; omega) ((hwU.drop t).take _) hmid (by omega)
        (Wf.limbs _) (by rw [hvl]) hdiv hvt (by rw [num_limbs]; exact hwin.2.2)).mono ?_
      rintro e w7 ⟨V', rfl, hVl, hVw, hVn, hm7, ho7⟩
      rw [num_limbs] at hVn ⊢
      have hst := HK.out.step HV0.out HV1.out hfit (by omega) hVl hVw hVn
      have c4 := (hbq.only ho7 (Ne.symm hgg')).frozen t
      have c5 := (hbq.only ho7 (Ne.symm hgg')).cell t (by omega)
      have hq7 := hbq.only ho7 (Ne.symm hgg')
      generalize num (List.take (mm + 2 + 1) (List.drop t U)) / ((b * 2 ^ k : Nat) : Int) = Z at *
      clear c2 c3 hsplit hmid hbu hbq hdiv
      have hB7 := hB.trans (ho7.below (Nat.le_refl _))
      go_wp2
      go_roundw
      case rel => exact ⟨t, _, _, by omega, rfl, hst, Blk.only hm7 ((Only.refl gq w7).setCell _ _) hgg', hq7.set _ _, hB7.trans (((Only.refl gq w7).setCell _ _).below (Nat.le_of_lt hgg))⟩
      case measure => simp [intOf] <;> omega
    · obtain rfl : j = 0 := by omega
      obtain ⟨hUl, hQl, hwU, hwQ, he, hltv⟩ := HK.out
      have v0 := HV0.out
      rw [Int.pow_zero, Int.one_mul, List.drop_zero] at he
      rw [Int.pow_zero, Int.mul_one] at hltv
      have u0 := num_nonneg hwU
      have q0 := num_nonneg hwQ
      have hdm : num Q = ((a / b : Nat) : Int) ∧ num U = ((a % b * 2 ^ k : Nat) : Int) := by
        have hkk : 0 < 2 ^ k := Nat.pos_of_ne_zero (by simp)
        have e1 : ((a * 2 ^ k : Nat) : Int) / ((b * 2 ^ k : Nat) : Int) = num Q := by
          rw [he, Int.add_mul_ediv_left _ _ (by omega), Int.ediv_eq_zero_of_lt u0 hltv]; omega
        have e2 : ((a * 2 ^ k : Nat) : Int) % ((b * 2 ^ k : Nat) : Int) = num U := by
          rw [he, Int.add_mul_emod_self_left, Int.emod_eq_of_lt u0 hltv]
        constructor
        · rw [← e1, ← Int.natCast_ediv, Nat.mul_div_mul_right _ _ hkk]
        · rw [← e2, ← Int.natCast_emod, Nat.mul_mod_mul_right]
      have HDM := Lib.hid hdm
      clear hdm he hltv u0 q0 v0
      have hsq := hbq.sl hwQ hQl (by omega) (Nat.le_refl nq)
      have hsu := hbu.sl hwU hUl (by omega) (Nat.le_refl (n + 1))
      go_wp2_with fail
      refine (trim_sl _ _ _ Q wr hsq).mono ?_
      rintro e w8 ⟨i, rfl, hs8, rfl⟩
      go_wp2_with fail
      refine (trim_sl _ _ _ U wr hsu).mono ?_
      rintro e w8 ⟨i', rfl, hr8, rfl⟩
      rw [HDM.out.1, Int.toNat_natCast] at hs8
      rw [HDM.out.2, Int.toNat_natCast] at hr8
      have hri : i' ≤ n + 1 := hr8.cap
      go_wp2_with fail
      refine (shiftDown_any (a % b * 2 ^ k) k _ _ _ _ hr8 (by omega) (by omega)).mono ?_
      rintro e w9 ⟨ro, rl, rc, rfl, hr9, hw9⟩
      rw [Nat.mul_div_cancel _ (Nat.pos_of_ne_zero (by simp))] at hr9
      have hs9 := hs8.below hw9
      go_wp2
      go_ret2
      refine ⟨_, _, _, _, _, _, rfl, hs9, hr9, ?_⟩
      exact (hB2.trans (hB.mono (by have := HG.out; have := hB2.size; omega))).trans (hw9.mono (by have := hB2.size; have := hB.size; omega))

/-- quotient and remainder of any numbers, the divisor not zero -/
theorem div_says (a b : Nat) (h0 : b ≠ 0) : DivSays a b := by
  intro ao bo n m ca cb w ha hb hn hm
  rcases Nat.lt_or_ge a b with h | h
  · exact divide_less a b ao bo n m ca cb w ha hb h
  · have hl := hb.len
    rcases m with _ | _ | mm
    · exfalso
      exact h0 (limbs_inj ((List.eq_nil_of_length_eq_zero hl).trans limbs_zero.symm))
    · exact divide_limb a b ao bo n ca cb w ha hb h
    · exact divide_long a b ao bo n mm ca cb w ha hb h hn
end Go.Proofs.YthicfkeiggcjjaaGreatDoor
