import Derived.Test.YtolghagbpnjpgaaGreatDoorANormU1
import Derived.Laws.Bits64
import Derived.Laws.Bits64b
import Derived.Deep.QuietTactic
import Derived.BigQuiet
import Derived.Test.YtolghagbpnjpgaaGreatDoorANormU2
import Derived.Shelf.Small.Bits
import Derived.Test.YtolghagbpnjpgaaGreatDoorProg
import Derived.Test.YtolghagbpnjpgaaGreatDoorANormU7
import Derived.Test.YtolghagbpnjpgaaGreatDoorANormU8
import Derived.Test.YtolghagbpnjpgaaGreatDoorANormU5
import Derived.Test.YtolghagbpnjpgaaGreatDoorANormU6
import Derived.Test.YtolghagbpnjpgaaGreatDoorANormU3
import Derived.RegionTactic
import Derived.ChangeAlike
import Derived.BigRegion
namespace Go.Proofs.YtolghagbpnjpgaaGreatDoor
open Go.RowKit

/-- two integers are stored -/
theorem two_stored {w : World} {g h B : Nat} {nb mb : Bool} {ao bo : Option Addr} {n m ca cb : Nat} (hg : Box w g nb ao n ca) (hh : Box w h mb bo m cb) (hne : g ≠ h) (hBg : B ≤ g) (hBh : B ≤ h)
    (pb qb : Bool) (po qo : Option Addr) (pk qk pc qc : Nat) (P Q : List Int) (hp : Sl w po pk pc P) (hq : Sl w qo qk qc Q) :
    let W := (((w.setCell ⟨g, 0, none⟩ (.bool pb)).setCell ⟨g, 1, none⟩ (.slice po pk pc)).setCell ⟨h, 0, none⟩ (.bool qb)).setCell ⟨h, 1, none⟩ (.slice qo qk qc)
    Box W g pb po pk pc ∧ Box W h qb qo qk qc ∧ Sl W po pk pc P ∧ Sl W qo qk qc Q ∧ Below B w W := by
  have o1 := only_set2 w g (.bool pb) (.slice po pk pc)
  have g1 := hg.stored pb po pk pc
  have h1 := hh.only o1 (Ne.symm hne)
  have p1 := hp.only_box hg o1
  have q1 := hq.only_box hg o1
  have o2 := only_set2 ((w.setCell ⟨g, 0, none⟩ (.bool pb)).setCell ⟨g, 1, none⟩ (.slice po pk pc)) h (.bool qb) (.slice qo qk qc)
  exact ⟨g1.only o2 hne, h1.stored qb qo qk qc, p1.only_box h1 o2, q1.only_box h1 o2, (o1.below hBg).trans (o2.below hBh)⟩

theorem trim_zs {w : World} {ao : Option Addr} {n cap : Nat} {zs : List Int} (h : Sl w ao n cap zs) (a : Nat) (e : (num zs).toNat = a) :
    ∃ k, k ≤ n ∧ Sl w ao k cap (limbs a) ∧ ∀ W, Sl W ao n cap zs → Calls Tryz.prog 147 #[.slice ao n cap] W fun e w' => e = .returned (.slice ao k cap) ∧ W = w' := by
  subst e; exact trim_at _ _ _ _ _ h

end Go.Proofs.YtolghagbpnjpgaaGreatDoor

namespace Go.Proofs
open Go.Shelf
def Tryz.lays128_ren : Go.Shelf.Ren := ⟨fun | 128 => 192 | n => n, fun | 51 => 96 | 3 => 3 | 4 => 4 | 46 => 108 | 5 => 5 | 9 => 9 | n => n, fun | n => n⟩
theorem Tryz.lays128 : Go.Proofs.Lays.n128 Tryz.prog Tryz.lays128_ren := {
  mixed := by kernel_rfl
  f128 := Tryz.func192.trans (congrArg some (by kernel_rfl))
  t3 := Tryz.underlying3
  a3 := Tryz.isAgg3
  z3 := Tryz.sizeOf3
  v3 := Tryz.zeroValue3
  t4 := Tryz.underlying4
  a4 := Tryz.isAgg4
  z4 := Tryz.sizeOf4
  v4 := Tryz.zeroValue4
  t5 := Tryz.underlying5
  a5 := Tryz.isAgg5
  z5 := Tryz.sizeOf5
  v5 := Tryz.zeroValue5
  t9 := Tryz.underlying9
  a9 := Tryz.isAgg9
  z9 := Tryz.sizeOf9
  v9 := Tryz.zeroValue9
  t46 := Tryz.underlying108
  a46 := Tryz.isAgg108
  z46 := Tryz.sizeOf108
  v46 := Tryz.zeroValue108
  t51 := Tryz.underlying96
  a51 := Tryz.isAgg96
  z51 := Tryz.sizeOf96
  v51 := Tryz.zeroValue96 }
theorem Tryz.bits_Len32 (x : Int) (w : World) (h0 : 0 ≤ x) (h1 : x ≤ 4294967295) :
    Calls Tryz.prog 192 #[.int .u32 x] w fun e w' => e = .returned (.int .i64 (Lib.bitLen x.toNat)) ∧ w' = w := Any.bits_Len32 Tryz.lays128 x w h0 h1
def Tryz.lays125_ren : Go.Shelf.Ren := ⟨fun | 125 => 225 | 128 => 192 | 129 => 191 | n => n, fun | 46 => 108 | 3 => 3 | 51 => 96 | 53 => 22 | 4 => 4 | 5 => 5 | 9 => 9 | n => n, fun | n => n⟩
theorem Tryz.lays125 : Go.Proofs.Lays.n125 Tryz.prog Tryz.lays125_ren := {
  mixed := by kernel_rfl
  f125 := Tryz.func225.trans (congrArg some (by kernel_rfl))
  f128 := Tryz.func192.trans (congrArg some (by kernel_rfl))
  f129 := Tryz.func191.trans (congrArg some (by kernel_rfl))
  t3 := Tryz.underlying3
  a3 := Tryz.isAgg3
  z3 := Tryz.sizeOf3
  v3 := Tryz.zeroValue3
  t4 := Tryz.underlying4
  a4 := Tryz.isAgg4
  z4 := Tryz.sizeOf4
  v4 := Tryz.zeroValue4
  t5 := Tryz.underlying5
  a5 := Tryz.isAgg5
  z5 := Tryz.sizeOf5
  v5 := Tryz.zeroValue5
  t9 := Tryz.underlying9
  a9 := Tryz.isAgg9
  z9 := Tryz.sizeOf9
  v9 := Tryz.zeroValue9
  t46 := Tryz.underlying108
  a46 := Tryz.isAgg108
  z46 := Tryz.sizeOf108
  v46 := Tryz.zeroValue108
  t51 := Tryz.underlying96
  a51 := Tryz.isAgg96
  z51 := Tryz.sizeOf96
  v51 := Tryz.zeroValue96
  t53 := Tryz.underlying22
  a53 := Tryz.isAgg22
  z53 := Tryz.sizeOf22
  v53 := Tryz.zeroValue22 }
theorem Tryz.bits_Len (x : Int) (w : World) (h0 : 0 ≤ x) (h1 : x ≤ 18446744073709551615) :
    Calls Tryz.prog 225 #[.int .u64 x] w fun e w' => e = .returned (.int .i64 (Lib.bitLen x.toNat)) ∧ w' = w := Any.bits_Len Tryz.lays125 x w h0 h1
def Tryz.lays133_ren : Go.Shelf.Ren := ⟨fun | 133 => 220 | 128 => 192 | n => n, fun | 51 => 96 | 3 => 3 | 4 => 4 | 46 => 108 | 5 => 5 | 9 => 9 | n => n, fun | n => n⟩
theorem Tryz.lays133 : Go.Proofs.Lays.n133 Tryz.prog Tryz.lays133_ren := {
  mixed := by kernel_rfl
  f128 := Tryz.func192.trans (congrArg some (by kernel_rfl))
  f133 := Tryz.func220.trans (congrArg some (by kernel_rfl))
  t3 := Tryz.underlying3
  a3 := Tryz.isAgg3
  z3 := Tryz.sizeOf3
  v3 := Tryz.zeroValue3
  t4 := Tryz.underlying4
  a4 := Tryz.isAgg4
  z4 := Tryz.sizeOf4
  v4 := Tryz.zeroValue4
  t5 := Tryz.underlying5
  a5 := Tryz.isAgg5
  z5 := Tryz.sizeOf5
  v5 := Tryz.zeroValue5
  t9 := Tryz.underlying9
  a9 := Tryz.isAgg9
  z9 := Tryz.sizeOf9
  v9 := Tryz.zeroValue9
  t46 := Tryz.underlying108
  a46 := Tryz.isAgg108
  z46 := Tryz.sizeOf108
  v46 := Tryz.zeroValue108
  t51 := Tryz.underlying96
  a51 := Tryz.isAgg96
  z51 := Tryz.sizeOf96
  v51 := Tryz.zeroValue96 }
theorem Tryz.bits_LeadingZeros32 (x : Int) (w : World) (h0 : 0 ≤ x) (h1 : x ≤ 4294967295) :
    Calls Tryz.prog 220 #[.int .u32 x] w fun e w' => e = .returned (.int .i64 (32 - (Lib.bitLen x.toNat : Int))) ∧ w' = w := Any.bits_LeadingZeros32 Tryz.lays133 x w h0 h1
end Go.Proofs

namespace Go.Proofs.YtolghagbpnjpgaaGreatDoor
open Go.RowKit

theorem bitLen_zero : Lib.bitLen 0 = 0 := by unfold Lib.bitLen; unfold Lib.bitLenAux; simp

theorem bitLen_spec (x : Nat) (h0 : x ≠ 0) (h : x < 2 ^ 64) : ∃ l, Lib.bitLen x = l + 1 ∧ 2 ^ l ≤ x ∧ x < 2 ^ (l + 1) := by
  induction x using Nat.strongRecOn with
  | _ x ih =>
    by_cases h1 : x / 2 = 0
    · refine ⟨0, ?_, by omega, by omega⟩
      rw [Lib.bitLen_half x h0 h, h1, bitLen_zero]
    · obtain ⟨l, e, l0, l1⟩ := ih (x / 2) (by omega) h1 (by omega)
      refine ⟨l + 1, ?_, ?_, ?_⟩
      · rw [Lib.bitLen_half x h0 h, e]; omega
      · rw [Nat.pow_succ]; omega
      · rw [Nat.pow_succ] at l1 ⊢; omega

/-- the shift that puts a one into the top bit of the divisor -/
theorem norm_shift {b m : Nat} (hm : (limbs b).length = m + 1) :
    ∃ k : Nat, k < 32 ∧ 32 - (Lib.bitLen ((limbs b).getD m 0).toNat : Int) = (k : Int) ∧ (limbs (b * 2 ^ k)).length = m + 1 ∧ 2147483648 ≤ (limbs (b * 2 ^ k)).getD m 0 := by
  have h1 : b < 4294967296 ^ (m + 1) := (limbs_len_le b (m + 1)).1 (by omega)
  have h2 : 4294967296 ^ m ≤ b := by
    rcases Nat.lt_or_ge b (4294967296 ^ m) with h | h
    · have := (limbs_len_le b m).2 h; omega
    · exact h
  have hpm : 0 < 4294967296 ^ m := Nat.pos_of_ne_zero (by simp)
  have hd1 : b / 4294967296 ^ m < 4294967296 := by
    rw [Nat.div_lt_iff_lt_mul hpm, Nat.mul_comm, ← Nat.pow_succ]; exact h1
  have hd0 : 0 < b / 4294967296 ^ m := Nat.div_pos h2 hpm
  have ht : (limbs b).getD m 0 = ((b / 4294967296 ^ m : Nat) : Int) := by
    rw [limbs_at, Nat.mod_eq_of_lt hd1]
  rw [ht, Int.toNat_natCast]
  generalize htt : b / 4294967296 ^ m = t at *
  obtain ⟨l, e, l0, l1⟩ := bitLen_spec t (by omega) (by omega)
  have hl : l < 32 := by
    rcases Nat.lt_or_ge l 32 with h | h
    · exact h
    · have := Nat.pow_le_pow_right (show 0 < 2 by omega) h
      omega
  refine ⟨31 - l, by omega, by rw [e]; omega, ?_, ?_⟩
  all_goals
    have hp : 2 ^ (31 - l) * 2 ^ l = 2147483648 := by rw [← Nat.pow_add, show 31 - l + l = 31 by omega]
    have hp2 : 2 ^ (31 - l) * 2 ^ (l + 1) = 4294967296 := by rw [← Nat.pow_add, show 31 - l + (l + 1) = 32 by omega]
    have hk0 : 0 < 2 ^ (31 - l) := Nat.pos_of_ne_zero (by simp)
    -- b 2^k / R^m = ..
    have hb1 : b < (t + 1) * 4294967296 ^ m := by
      rw [← htt, Nat.add_mul, Nat.one_mul, Nat.mul_comm (b / 4294967296 ^ m)]
      have := Nat.div_add_mod b (4294967296 ^ m)
      have := Nat.mod_lt b hpm
      omega
    have hb0 : t * 4294967296 ^ m ≤ b := by rw [← htt]; exact Nat.div_mul_le_self _ _
    have hv1 : b * 2 ^ (31 - l) < 4294967296 ^ (m + 1) := by
      have a1 : b * 2 ^ (31 - l) < (t + 1) * 4294967296 ^ m * 2 ^ (31 - l) := Nat.mul_lt_mul_of_pos_right hb1 hk0
      have a2 : (t + 1) * 4294967296 ^ m * 2 ^ (31 - l) ≤ 2 ^ (l + 1) * 4294967296 ^ m * 2 ^ (31 - l) := Nat.mul_le_mul_right _ (Nat.mul_le_mul_right _ (by omega))
      have a3 : 2 ^ (l + 1) * 4294967296 ^ m * 2 ^ (31 - l) = 4294967296 ^ (m + 1) := by
        rw [Nat.mul_right_comm, Nat.mul_comm (2 ^ (l + 1)), hp2, Nat.pow_succ, Nat.mul_comm]
      omega
    have hv0 : 2147483648 * 4294967296 ^ m ≤ b * 2 ^ (31 - l) := by
      have a1 : 2 ^ l * 4294967296 ^ m * 2 ^ (31 - l) ≤ b * 2 ^ (31 - l) := Nat.mul_le_mul_right _ (Nat.le_trans (Nat.mul_le_mul_right _ l0) hb0)
      have a3 : 2 ^ l * 4294967296 ^ m * 2 ^ (31 - l) = 2147483648 * 4294967296 ^ m := by
        rw [Nat.mul_right_comm, Nat.mul_comm (2 ^ l), hp]
      omega
  · have g1 := (limbs_len_le (b * 2 ^ (31 - l)) (m + 1)).2 hv1
    rcases Nat.lt_or_ge (limbs (b * 2 ^ (31 - l))).length (m + 1) with h | h
    · exfalso
      have g2 := (limbs_len_le (b * 2 ^ (31 - l)) m).1 (by omega)
      omega
    · omega
  · rw [limbs_at]
    have g1 : 2147483648 ≤ b * 2 ^ (31 - l) / 4294967296 ^ m := (Nat.le_div_iff_mul_le hpm).2 hv0
    have g2 : b * 2 ^ (31 - l) / 4294967296 ^ m < 4294967296 := by
      rw [Nat.div_lt_iff_lt_mul hpm]
      rw [Nat.pow_succ, Nat.mul_comm (4294967296 ^ m)] at hv1
      exact hv1
    rw [Nat.mod_eq_of_lt g2]
    omega

/-- from limb j on the quotient stands in Q, and what is left in U is less than v at that place -/
def Knuth (u v : Int) (U Q : List Int) (nu nq j : Nat) : Prop :=
  U.length = nu ∧ Q.length = nq ∧ Wf U ∧ Wf Q ∧ u = num U + v * (4294967296 ^ j * num (Q.drop j)) ∧ num U < v * 4294967296 ^ j

theorem Knuth.window {u v : Int} {U Q : List Int} {nu nq t m : Nat} (h : Knuth u v U Q nu nq (t + 1)) (hv1 : v < 4294967296 ^ m) (hl : t + (m + 1) ≤ nu) :
    num U = num (U.take t) + 4294967296 ^ t * num ((U.drop t).take (m + 1)) ∧ num (U.drop (t + (m + 1))) = 0 ∧ num ((U.drop t).take (m + 1)) < v * 4294967296 := by
  obtain ⟨h1, h2, h3, h4, h5, h6⟩ := h
  have e1 := num_append (U.take t) (U.drop t)
  have e2 := num_append ((U.drop t).take (m + 1)) ((U.drop t).drop (m + 1))
  rw [List.take_append_drop, List.length_take, Nat.min_eq_left (by omega)] at e1
  rw [List.take_append_drop, List.length_take, List.length_drop, Nat.min_eq_left (by omega), List.drop_drop] at e2
  have p0 := num_nonneg (h3.take t)
  have v0 := num_nonneg ((h3.drop t).take (m + 1))
  have t0 := num_nonneg (h3.drop (t + (m + 1)))
  have hpt := pow_pos' t
  have hT : num (U.drop (t + (m + 1))) = 0 := by
    rcases Int.lt_or_eq_of_le t0 with hlt | heq
    · exfalso
      have a1 : (4294967296 : Int) ^ (m + 1) * 1 ≤ 4294967296 ^ (m + 1) * num (U.drop (t + (m + 1))) := Int.mul_le_mul_of_nonneg_left (by omega) (Int.le_of_lt (pow_pos' _))
      have a2 : (4294967296 : Int) ^ t * 4294967296 ^ (m + 1) ≤ 4294967296 ^ t * num (U.drop t) := Int.mul_le_mul_of_nonneg_left (by omega) (Int.le_of_lt hpt)
      have a3 : v * 4294967296 ^ (t + 1) ≤ 4294967296 ^ t * 4294967296 ^ (m + 1) := by
        have := Int.mul_le_mul_of_nonneg_right (Int.le_of_lt hv1) (Int.le_of_lt (pow_pos' (t + 1)))
        have e : (4294967296 : Int) ^ m * 4294967296 ^ (t + 1) = 4294967296 ^ t * 4294967296 ^ (m + 1) := by
          rw [← Int.pow_add, ← Int.pow_add, show m + (t + 1) = t + (m + 1) by omega]
        rw [e] at this
        exact this
      omega
    · exact heq.symm
  rw [hT, Int.mul_zero, Int.add_zero] at e2
  rw [e2] at e1
  refine ⟨e1, hT, ?_⟩
  rcases lt_or_ge_int (num ((U.drop t).take (m + 1))) (v * 4294967296) with hlt | hge
  · exact hlt
  · exfalso
    have a1 := Int.mul_le_mul_of_nonneg_left hge (Int.le_of_lt hpt)
    have a2 : (4294967296 : Int) ^ t * (v * 4294967296) = v * 4294967296 ^ (t + 1) := by rw [Int.pow_succ, Int.mul_left_comm]
    omega

theorem Knuth.step {u v : Int} {U Q V' : List Int} {nu nq t m : Nat} (h : Knuth u v U Q nu nq (t + 1)) (hv0 : 0 < v) (hv1 : v < 4294967296 ^ m) (hl : t + (m + 1) ≤ nu) (hq : t < nq)
    (hV : V'.length = m + 1) (hwf : Wf V') (hr : num V' = num ((U.drop t).take (m + 1)) % v) :
    Knuth u v (U.take t ++ (V' ++ U.drop (t + (m + 1)))) (Q.set t (num ((U.drop t).take (m + 1)) / v)) nu nq t := by
  obtain ⟨w1, w2, w3⟩ := h.window hv1 hl
  obtain ⟨h1, h2, h3, h4, h5, h6⟩ := h
  have v0 := num_nonneg ((h3.drop t).take (m + 1))
  have p0 := num_nonneg (h3.take t)
  have p1 := num_lt (h3.take t)
  rw [List.length_take, Nat.min_eq_left (by omega)] at p1
  have hdm := Int.mul_ediv_add_emod (num ((U.drop t).take (m + 1))) v
  have r0 : 0 ≤ num ((U.drop t).take (m + 1)) % v := Int.emod_nonneg _ (by omega)
  have r1 : num ((U.drop t).take (m + 1)) % v < v := Int.emod_lt_of_pos _ hv0
  have q0 : 0 ≤ num ((U.drop t).take (m + 1)) / v := Int.ediv_nonneg v0 (Int.le_of_lt hv0)
  have q1 : num ((U.drop t).take (m + 1)) / v < 4294967296 := Int.ediv_lt_of_lt_mul hv0 (by rw [Int.mul_comm]; exact w3)
  have eU : num (U.take t ++ (V' ++ U.drop (t + (m + 1)))) = num (U.take t) + 4294967296 ^ t * num V' := by
    rw [num_append, num_append, w2, List.length_take, Nat.min_eq_left (by omega)]
    simp
  have hpt := pow_pos' t
  refine ⟨by simp [h1, hV]; omega, by simpa using h2, (h3.take t).append (hwf.append (h3.drop _)), h4.set _ ⟨q0, q1⟩, ?_, ?_⟩
  · rw [eU, hr, h5, w1, num_drop' (Q.set t _) t (by simp [h2]; omega), List.drop_set_of_lt (by omega), getD_set _ _ _ _ (by omega), if_pos rfl]
    generalize num ((U.drop t).take (m + 1)) = A at *
    generalize num (Q.drop (t + 1)) = C at *
    generalize num (U.take t) = D at *
    have e1 : v * (4294967296 ^ t * (A / v + 4294967296 * C)) = 4294967296 ^ t * (v * (A / v)) + v * (4294967296 ^ (t + 1) * C) := by
      rw [Int.mul_add (4294967296 ^ t), Int.mul_add v, Int.mul_left_comm v, Int.pow_succ, Int.mul_assoc]
    have e2 : (4294967296 : Int) ^ t * A = 4294967296 ^ t * (v * (A / v)) + 4294967296 ^ t * (A % v) := by rw [← Int.mul_add, hdm]
    rw [e1, e2]
    omega
  · rw [eU, hr]
    generalize num ((U.drop t).take (m + 1)) = A at *
    have a1 : (4294967296 : Int) ^ t * (A % v + 1) ≤ 4294967296 ^ t * v := Int.mul_le_mul_of_nonneg_left (by omega) (Int.le_of_lt hpt)
    rw [Int.mul_add, Int.mul_one, Int.mul_comm (4294967296 ^ t) v] at a1
    omega

end Go.Proofs.YtolghagbpnjpgaaGreatDoor

namespace Go.Proofs.YtolghagbpnjpgaaGreatDoor
open Go.RowKit

set_option maxRecDepth 100000 in
set_option maxHeartbeats 1000000 in
theorem fsplit_any (f : Nat) (hf : f < 18446744073709551616) (w : World) :
    Calls Tryz.prog 73 #[.int .u64 (f : Int)] w fun e w' => e = .returned (.agg #[.int .u64 0, .int .u64 ((sig f : Nat) : Int), .int .i64 (-1074 + (fsh f : Int)), .bool false]) ∧ Ext w w' := by
  have ha := andNot_sign hf
  have hb := and_frac hf
  have hm := fmag_lt f
  have hfr : f % 4503599627370496 = fmag f % 4503599627370496 := by unfold fmag; omega
  rw [hfr] at hb
  have hd : ((fmag f : Nat) : Int) / 4503599627370496 = ((ffld f : Nat) : Int) := by unfold ffld; omega
  have hq : ffld f < 2048 := by unfold ffld; omega
  have ho := or_hidden (a := fmag f % 4503599627370496) (by omega)
  by_cases h0 : ffld f = 0
  · have e1 : sig f = fmag f % 4503599627370496 := by unfold sig; rw [if_pos h0]; unfold ffld at h0; omega
    have e2 : fsh f = 0 := by unfold fsh; omega
    rw [e1, e2]
    rw [h0] at hd
    clear e1 e2 h0 ho hq hfr
    generalize fmag f % 4503599627370496 = r at *
    generalize fmag f = m at *
    go_enter Tryz.func73, Tryz.ntmps73
    go_wp2
    exact bodyPost_ret (v := .agg #[.int .u64 0, .int .u64 r, .int .i64 (-1074), .bool false]) (by simp [results, Tryz.results73, go_sem]) rfl ⟨rfl, (Below.refl _ _).alloc (Nat.le_refl _) _⟩
  · have e1 : sig f = fmag f % 4503599627370496 + 4503599627370496 := by unfold sig; rw [if_neg h0]
    obtain ⟨k, hk⟩ : ∃ k, ffld f = k + 1 := ⟨ffld f - 1, by omega⟩
    have e2 : fsh f = k := by unfold fsh; omega
    rw [e1, e2]
    rw [hk] at hd hq
    clear e1 e2 h0 hfr hk
    generalize fmag f % 4503599627370496 + 4503599627370496 = z at *
    generalize fmag f % 4503599627370496 = r at *
    generalize fmag f = m at *
    obtain ⟨q, hqq⟩ : ∃ q : Int, ((k + 1 : Nat) : Int) = q := ⟨_, rfl⟩
    rw [hqq] at hd
    have q0 : 0 < q := by omega
    have q1 : q < 2048 := by omega
    have q2 : -1074 + (k : Int) = -1074 + (q - 1) := by omega
    have Q2 := Lib.hid q2
    clear q2 hqq hq
    go_enter Tryz.func73, Tryz.ntmps73
    go_wp2
    exact bodyPost_ret (v := .agg #[.int .u64 0, .int .u64 z, .int .i64 (-1074 + (q - 1)), .bool false]) (by simp [results, Tryz.results73, go_sem]) rfl ⟨by rw [Q2.out], (Below.refl _ _).alloc (Nat.le_refl _) _⟩

theorem cast_pow2 (k : Nat) : ((2 ^ k : Nat) : Int) = 2 ^ k := by rw [Int.natCast_pow]; rfl
theorem cast_mulpow (a k : Nat) : ((a * 2 ^ k : Nat) : Int) = (a : Int) * 2 ^ k := by rw [Int.natCast_mul, cast_pow2]
theorem cast_divpow (a k : Nat) : ((a / 2 ^ k : Nat) : Int) = (a : Int) / 2 ^ k := by rw [← cast_pow2]; exact Int.natCast_ediv _ _
theorem cast_modpow (a k M : Nat) : ((a * 2 ^ k % M : Nat) : Int) = (a : Int) * 2 ^ k % (M : Int) := by rw [Int.natCast_emod, cast_mulpow]
theorem wrap_nat {a : Nat} (h : a < 18446744073709551616) : IntKind.u64.wrap (a : Int) = (a : Int) := by rw [IntKind.wrap_u64]; omega
theorem norm_words {hi lo k : Nat} (hlo : lo < 18446744073709551616) (hk : k ≤ 64) (hb : hi < 2 ^ (64 - k)) :
    (hi * 2 ^ k + lo / 2 ^ (64 - k)) * 18446744073709551616 + lo * 2 ^ k % 18446744073709551616 = (hi * 18446744073709551616 + lo) * 2 ^ k ∧ hi * 2 ^ k + lo / 2 ^ (64 - k) < 18446744073709551616 ∧ lo / 2 ^ (64 - k) < 2 ^ k ∧ hi * 2 ^ k < 18446744073709551616 := by
  have e : (18446744073709551616 : Nat) = 2 ^ (64 - k) * 2 ^ k := by rw [← Nat.pow_add, show 64 - k + k = 64 by omega]
  have hp : 0 < 2 ^ (64 - k) := Nat.pow_pos (by omega)
  have hq : 0 < 2 ^ k := Nat.pow_pos (by omega)
  have e1 : lo * 2 ^ k / 18446744073709551616 = lo / 2 ^ (64 - k) := by rw [e, Nat.mul_div_mul_right _ _ hq]
  have e2 : lo / 2 ^ (64 - k) < 2 ^ k := by rw [Nat.div_lt_iff_lt_mul hp, Nat.mul_comm, ← e]; exact hlo
  have e3 : hi * 2 ^ k + 2 ^ k ≤ 18446744073709551616 := by
    have := Nat.mul_le_mul_right (2 ^ k) (show hi + 1 ≤ 2 ^ (64 - k) from hb)
    rwa [Nat.add_mul, Nat.one_mul, ← e] at this
  have e4 := Nat.div_add_mod (lo * 2 ^ k) 18446744073709551616
  rw [e1] at e4
  refine ⟨?_, by omega, e2, by omega⟩
  rw [Nat.add_mul, Nat.add_mul (hi * 18446744073709551616), Nat.mul_right_comm hi (2 ^ k), Nat.add_assoc, Nat.mul_comm (lo / 2 ^ (64 - k)), e4]

theorem lz_any {x k : Nat} (h0 : 2 ^ (63 - k) ≤ x) (h1 : x < 2 ^ (64 - k)) (hk : k ≤ 63) (w : World) :
    Calls Tryz.prog 148 #[.int .u64 x] w fun e w' => e = .returned (.int .i64 (k : Int)) ∧ w = w' := by
  have hx : x < 2 ^ 64 := Nat.lt_of_lt_of_le h1 (Nat.pow_le_pow_right (by omega) (by omega))
  have hx0 : x ≠ 0 := by have := Nat.pow_pos (n := 63 - k) (show 0 < 2 by omega); omega
  obtain ⟨l, hl, l1, l2⟩ := bitLen_spec x hx0 hx
  have e : l = 63 - k := by
    have a1 := (Nat.pow_lt_pow_iff_right (show 1 < 2 by omega)).1 (Nat.lt_of_le_of_lt l1 h1)
    have a2 := (Nat.pow_lt_pow_iff_right (show 1 < 2 by omega)).1 (Nat.lt_of_le_of_lt h0 l2)
    omega
  refine (Tryz.bits_LeadingZeros64 (x : Int) w (by omega) (by omega)).mono ?_
  rintro e w' ⟨rfl, rfl⟩
  refine ⟨?_, rfl⟩
  rw [Int.toNat_natCast, hl]
  congr 2
  omega

set_option maxRecDepth 100000 in
set_option maxHeartbeats 2000000 in
theorem fnormal_hi (hi lo k : Nat) (e : Int) (t : Bool) (h0 : 2 ^ (63 - k) ≤ hi) (h1 : hi < 2 ^ (64 - k)) (hk : k ≤ 63) (hlo : lo < 18446744073709551616) (he0 : -1000000000000 ≤ e) (he1 : e ≤ 1000000000000) (w : World) :
    Calls Tryz.prog 134 #[.agg #[.int .u64 (hi : Int), .int .u64 (lo : Int), .int .i64 e, .bool t]] w fun r w' => r = .returned (.agg #[.int .u64 ((hi * 2 ^ k + lo / 2 ^ (64 - k) : Nat) : Int), .int .u64 ((lo * 2 ^ k % 18446744073709551616 : Nat) : Int), .int .i64 (e - k), .bool t]) ∧ Ext w w' := by
  obtain ⟨-, hb, hc, hd⟩ := norm_words hlo (show k ≤ 64 by omega) h1
  have hi0 : ((hi : Int) == 0) = false := by
    have := Nat.pow_pos (n := 63 - k) (show 0 < 2 by omega)
    rw [beq_eq_false_iff_ne]; omega
  have CL := Lib.hid (lz_any h0 h1 hk)
  clear h0 h1
  have hs1 : IntKind.u64.wrap ((hi : Int) * 2 ^ k) = ((hi * 2 ^ k : Nat) : Int) := by rw [← cast_mulpow]; exact wrap_nat hd
  have hs2 : (lo : Int) / 2 ^ (64 - k) = ((lo / 2 ^ (64 - k) : Nat) : Int) := (cast_divpow _ _).symm
  have hs3 := or_add hc hb
  have hs4 : IntKind.u64.wrap ((lo : Int) * 2 ^ k) = ((lo * 2 ^ k % 18446744073709551616 : Nat) : Int) := by rw [IntKind.wrap_u64]; exact (cast_modpow lo k 18446744073709551616).symm
  have hs5 : (lo : Int) * 2 ^ k % 18446744073709551616 = ((lo * 2 ^ k % 18446744073709551616 : Nat) : Int) := (cast_modpow lo k 18446744073709551616).symm
  have hk3 : e - (k : Int) = e - k := rfl
  generalize hi * 2 ^ k + lo / 2 ^ (64 - k) = Y at *
  generalize hi * 2 ^ k = A at *
  generalize lo / 2 ^ (64 - k) = X at *
  generalize lo * 2 ^ k % 18446744073709551616 = Z at *
  clear hc hb hd hk3
  have k0 : (0 : Int) ≤ (k : Int) := by omega
  have k1 : (0 : Int) ≤ 64 - (k : Int) := by omega
  have k2 : (k : Int) ≤ 64 := by omega
  go_enter Tryz.func134, Tryz.ntmps134
  go_upto_region 1 with fail
  obtain ⟨W, hW, hB, hx, hr, hz⟩ := boxes_nn w hi lo e t 0 0 0 false
  rw [← hW]
  clear hW
  generalize hBe : w.heap.size = B at *
  have HBe := Lib.hid hBe
  clear hBe
  have c0 := hx.c0
  have c1 := hx.c1
  have c2 := hx.c2
  have c3 := hx.c3
  have g0 := hx.f 0
  have g1 := hx.f 1
  have g2 := hx.f 2
  have g3 := hx.f 3
  go_wp2_with (refine (CL.out _).mono ?_; rintro e w' ⟨rfl, rfl⟩)
  go_region
  go_upto_region 7 with fail
  obtain ⟨W1, hW1, x1, r1, b1⟩ : ∃ W1, (((W.setCell ⟨B, 0, none⟩ (.int .u64 Y)).setCell ⟨B, 1, none⟩ (.int .u64 Z)).setCell ⟨B, 2, none⟩ (.int .i64 (e - k))).drew = W1 ∧ NBox W1 B Y Z (e - k) t ∧ NBox W1 (B + 1) 0 0 0 false ∧ Below B w W1 :=
    ⟨_, rfl, (hx.stored012 Y Z (e - k)).drew, (hr.only (only_nset3 _ _ _ _ _) (by omega)).drew, (hB.trans ((only_nset3 _ _ _ _ _).below (Nat.le_refl _))).drew⟩
  rw [hW1]
  clear hW1 hx hr hB c0 c1 c2 c3 g0 g1 g2 g3 hz hs1 hs2 hs3 hs4 hs5
  have c0 := x1.c0
  have c1 := x1.c1
  have c2 := x1.c2
  have c3 := x1.c3
  have q0 := r1.c0
  have q1 := r1.c1
  have q2 := r1.c2
  have q3 := r1.c3
  have p0 := r1.f 0
  have p1 := r1.f 1
  have p2 := r1.f 2
  have p3 := r1.f 3
  have z := r1.stored Y Z (e - k) t
  have z0 := z.c0
  have z1 := z.c1
  have z2 := z.c2
  have z3 := z.c3
  have B1 := Lib.hid (b1.trans ((only_nset4 W1 (B + 1) (.int .u64 Y) (.int .u64 Z) (.int .i64 (e - k)) (.bool t)).below (B := B) (by omega)))
  clear z x1 r1 b1
  go_wp2
  refine bodyPost_ret (v := .agg #[.int .u64 Y, .int .u64 Z, .int .i64 (e - k), .bool t]) (by simp [results, Tryz.results134, go_sem, z0, z1, z2, z3]) rfl ⟨rfl, ?_⟩
  show Below _ _ _
  rw [HBe.out]
  exact B1.out

set_option maxRecDepth 100000 in
set_option maxHeartbeats 2000000 in
theorem fnormal_lo (lo k : Nat) (e : Int) (t : Bool) (h0 : 2 ^ (63 - k) ≤ lo) (h1 : lo < 2 ^ (64 - k)) (hk : k ≤ 63) (he0 : -1000000000000 ≤ e) (he1 : e ≤ 1000000000000) (w : World) :
    Calls Tryz.prog 134 #[.agg #[.int .u64 0, .int .u64 (lo : Int), .int .i64 e, .bool t]] w fun r w' => r = .returned (.agg #[.int .u64 ((lo * 2 ^ k : Nat) : Int), .int .u64 0, .int .i64 (e - 64 - k), .bool t]) ∧ Ext w w' := by
  obtain ⟨-, -, -, hd⟩ := norm_words (lo := 0) (by omega) (show k ≤ 64 by omega) h1
  have CL := Lib.hid (lz_any h0 h1 hk)
  clear h0 h1
  have hs1 : IntKind.u64.wrap ((lo : Int) * 2 ^ k) = ((lo * 2 ^ k : Nat) : Int) := by rw [← cast_mulpow]; exact wrap_nat hd
  have hs3 : bits BinOp.or IntKind.u64 ((lo * 2 ^ k : Nat) : Int) 0 = ((lo * 2 ^ k : Nat) : Int) := by
    have := or_add (a := lo) (b := 0) (k := k) (Nat.pow_pos (by omega)) (by omega)
    exact this
  generalize lo * 2 ^ k = A at *
  clear hd
  have k0 : (0 : Int) ≤ (k : Int) := by omega
  have k1 : (0 : Int) ≤ 64 - (k : Int) := by omega
  have k2 : (k : Int) ≤ 64 := by omega
  go_enter Tryz.func134, Tryz.ntmps134
  go_upto_region 1 with fail
  obtain ⟨W, hW, hB, hx, hr, hz⟩ := boxes_nn w 0 lo e t 0 0 0 false
  rw [← hW]
  clear hW
  generalize hBe : w.heap.size = B at *
  have HBe := Lib.hid hBe
  clear hBe
  have c0 := hx.c0
  have c1 := hx.c1
  have c2 := hx.c2
  have c3 := hx.c3
  have g0 := hx.f 0
  have g1 := hx.f 1
  have g2 := hx.f 2
  have g3 := hx.f 3
  go_upto_region 3 with fail
  obtain ⟨W0, hW0, x0, r0, b0⟩ : ∃ W0, ((W.setCell ⟨B, 0, none⟩ (.int .u64 lo)).setCell ⟨B, 1, none⟩ (.int .u64 0)).setCell ⟨B, 2, none⟩ (.int .i64 (e - 64)) = W0 ∧ NBox W0 B lo 0 (e - 64) t ∧ NBox W0 (B + 1) 0 0 0 false ∧ Below B w W0 :=
    ⟨_, rfl, hx.stored012 lo 0 (e - 64), hr.only (only_nset3 _ _ _ _ _) (by omega), hB.trans ((only_nset3 _ _ _ _ _).below (Nat.le_refl _))⟩
  rw [hW0]
  clear hW0 hx hr hB c0 c1 c2 c3 g0 g1 g2 g3
  have c0 := x0.c0
  have c1 := x0.c1
  have c2 := x0.c2
  have c3 := x0.c3
  have g0 := x0.f 0
  have g1 := x0.f 1
  have g2 := x0.f 2
  have g3 := x0.f 3
  go_wp2_with (refine (CL.out _).mono ?_; rintro e w' ⟨rfl, rfl⟩)
  go_region
  go_upto_region 7 with fail
  obtain ⟨W1, hW1, x1, r1, b1⟩ : ∃ W1, (((W0.setCell ⟨B, 0, none⟩ (.int .u64 A)).setCell ⟨B, 1, none⟩ (.int .u64 0)).setCell ⟨B, 2, none⟩ (.int .i64 (e - 64 - k))).drew = W1 ∧ NBox W1 B A 0 (e - 64 - k) t ∧ NBox W1 (B + 1) 0 0 0 false ∧ Below B w W1 :=
    ⟨_, rfl, (x0.stored012 A 0 (e - 64 - k)).drew, (r0.only (only_nset3 _ _ _ _ _) (by omega)).drew, (b0.trans ((only_nset3 _ _ _ _ _).below (Nat.le_refl _))).drew⟩
  rw [hW1]
  clear hW1 x0 r0 b0 c0 c1 c2 c3 g0 g1 g2 g3 hz hs1 hs3
  have c0 := x1.c0
  have c1 := x1.c1
  have c2 := x1.c2
  have c3 := x1.c3
  have q0 := r1.c0
  have q1 := r1.c1
  have q2 := r1.c2
  have q3 := r1.c3
  have p0 := r1.f 0
  have p1 := r1.f 1
  have p2 := r1.f 2
  have p3 := r1.f 3
  have z := r1.stored A 0 (e - 64 - k) t
  have z0 := z.c0
  have z1 := z.c1
  have z2 := z.c2
  have z3 := z.c3
  have B1 := Lib.hid (b1.trans ((only_nset4 W1 (B + 1) (.int .u64 A) (.int .u64 0) (.int .i64 (e - 64 - k)) (.bool t)).below (B := B) (by omega)))
  clear z x1 r1 b1
  go_wp2
  refine bodyPost_ret (v := .agg #[(.int .u64 A), (.int .u64 0), .int .i64 (e - 64 - k), .bool t]) (by simp [results, Tryz.results134, go_sem, z0, z1, z2, z3]) rfl ⟨rfl, ?_⟩
  show Below _ _ _
  rw [HBe.out]
  exact B1.out

/-- a number that is not zero, normalized -/
theorem fnormal_any (hi lo : Nat) (e : Int) (t : Bool) (h : hi < 18446744073709551616) (hlo : lo < 18446744073709551616) (h0 : hi * 18446744073709551616 + lo ≠ 0) (he0 : -1000000000000 ≤ e) (he1 : e ≤ 1000000000000) (w : World) :
    Calls Tryz.prog 134 #[.agg #[.int .u64 (hi : Int), .int .u64 (lo : Int), .int .i64 e, .bool t]] w fun r w' => ∃ H L k : Nat, r = .returned (.agg #[.int .u64 (H : Int), .int .u64 (L : Int), .int .i64 (e - k), .bool t]) ∧
      H * 18446744073709551616 + L = (hi * 18446744073709551616 + lo) * 2 ^ k ∧ 9223372036854775808 ≤ H ∧ H < 18446744073709551616 ∧ L < 18446744073709551616 ∧ k ≤ 127 ∧ Ext w w' := by
  by_cases hh : hi = 0
  · subst hh
    obtain ⟨l, -, l1, l2⟩ := bitLen_spec lo (by omega) (by omega)
    have hl : l < 64 := (Nat.pow_lt_pow_iff_right (show 1 < 2 by omega)).1 (Nat.lt_of_le_of_lt l1 hlo)
    obtain ⟨k, hk⟩ : ∃ k, l = 63 - k ∧ k ≤ 63 := ⟨63 - l, by omega, by omega⟩
    obtain ⟨rfl, hk⟩ := hk
    rw [show 63 - k + 1 = 64 - k by omega] at l2
    obtain ⟨-, -, -, hd⟩ := norm_words (lo := 0) (by omega) (show k ≤ 64 by omega) l2
    refine (fnormal_lo lo k e t l1 l2 hk he0 he1 w).mono fun r w' ⟨hr, hw⟩ => ⟨lo * 2 ^ k, 0, 64 + k, ?_, ?_, ?_, hd, by omega, by omega, hw⟩
    · rw [hr, show e - 64 - (k : Int) = e - ((64 + k : Nat) : Int) by push_cast; omega]
      rfl
    · rw [Nat.zero_mul, Nat.zero_add, Nat.add_zero, Nat.pow_add, Nat.mul_comm (2 ^ 64), ← Nat.mul_assoc]
    · have := Nat.mul_le_mul_right (2 ^ k) l1
      rwa [← Nat.pow_add, show 63 - k + k = 63 by omega] at this
  · obtain ⟨l, -, l1, l2⟩ := bitLen_spec hi hh (by omega)
    have hl : l < 64 := (Nat.pow_lt_pow_iff_right (show 1 < 2 by omega)).1 (Nat.lt_of_le_of_lt l1 h)
    obtain ⟨k, hk⟩ : ∃ k, l = 63 - k ∧ k ≤ 63 := ⟨63 - l, by omega, by omega⟩
    obtain ⟨rfl, hk⟩ := hk
    rw [show 63 - k + 1 = 64 - k by omega] at l2
    obtain ⟨n1, n2, n3, n4⟩ := norm_words hlo (show k ≤ 64 by omega) l2
    refine (fnormal_hi hi lo k e t l1 l2 hk hlo he0 he1 w).mono fun r w' ⟨hr, hw⟩ => ⟨_, _, k, hr, n1, ?_, n2, Nat.mod_lt _ (by omega), by omega, hw⟩
    have := Nat.mul_le_mul_right (2 ^ k) l1
    rw [← Nat.pow_add, show 63 - k + k = 63 by omega] at this
    exact Nat.le_trans this (Nat.le_add_right _ _)
end Go.Proofs.YtolghagbpnjpgaaGreatDoor
