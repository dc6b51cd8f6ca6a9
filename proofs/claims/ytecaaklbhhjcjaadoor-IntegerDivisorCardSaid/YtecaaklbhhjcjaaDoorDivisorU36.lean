import Derived.Test.YtecaaklbhhjcjaaDoorDivisorU25
import Derived.Test.YtecaaklbhhjcjaaDoorDivisorU26
import Derived.Test.YtecaaklbhhjcjaaDoorDivisorU0
import Derived.Test.YtecaaklbhhjcjaaDoorDivisorU24
import Derived.Test.YtecaaklbhhjcjaaDoorDivisorU11
namespace Go.Proofs.YtecaaklbhhjcjaaDoor
open Go.RowKit

/-- how many bits a number has -/
def blen (a : Nat) : Nat := if a = 0 then 0 else Nat.log2 a + 1

theorem blen_of {a k : Nat} (h0 : 2 ^ k ≤ a) (h1 : a < 2 ^ (k + 1)) : blen a = k + 1 := by
  have ha : a ≠ 0 := by have := Nat.pos_of_ne_zero (show 2 ^ k ≠ 0 by simp); omega
  unfold blen
  rw [if_neg ha, (Nat.log2_eq_iff ha).2 ⟨h0, h1⟩]

theorem blen_top {a m : Nat} (hm : (limbs a).length = m + 1) : ((m : Int) * 32 + (Lib.bitLen ((limbs a).getD m 0).toNat : Int)) = (blen a : Int) := by
  have h1 : a < 4294967296 ^ (m + 1) := (limbs_len_le a (m + 1)).1 (by omega)
  have h2 : 4294967296 ^ m ≤ a := by
    rcases Nat.lt_or_ge a (4294967296 ^ m) with h | h
    · have := (limbs_len_le a m).2 h; omega
    · exact h
  have hpm : 0 < 4294967296 ^ m := Nat.pos_of_ne_zero (by simp)
  have hd1 : a / 4294967296 ^ m < 4294967296 := by
    rw [Nat.div_lt_iff_lt_mul hpm, Nat.mul_comm, ← Nat.pow_succ]; exact h1
  have hd0 : 0 < a / 4294967296 ^ m := Nat.div_pos h2 hpm
  have ht : (limbs a).getD m 0 = ((a / 4294967296 ^ m : Nat) : Int) := by
    rw [limbs_at, Nat.mod_eq_of_lt hd1]
  rw [ht, Int.toNat_natCast]
  have hdm := Nat.div_add_mod a (4294967296 ^ m)
  have hml := Nat.mod_lt a hpm
  generalize htt : a / 4294967296 ^ m = t at *
  generalize a % 4294967296 ^ m = r at *
  obtain ⟨l, e, l0, l1⟩ := bitLen_spec t (by omega) (by omega)
  have hp : (4294967296 : Nat) ^ m = 2 ^ (m * 32) := by rw [Nat.mul_comm, Nat.pow_mul]
  rw [e, blen_of (k := m * 32 + l)]
  · omega
  · rw [Nat.pow_add, ← hp]
    have := Nat.mul_le_mul_left (4294967296 ^ m) l0
    omega
  · rw [Nat.add_assoc, Nat.pow_add, ← hp]
    have := Nat.mul_le_mul_left (4294967296 ^ m) (show t + 1 ≤ 2 ^ (l + 1) from l1)
    rw [Nat.mul_add, Nat.mul_one] at this
    omega

theorem bitLen_32 {x : Nat} (h : x < 4294967296) : Lib.bitLen x ≤ 32 := by
  by_cases h0 : x = 0
  · rw [h0, bitLen_zero]; omega
  · obtain ⟨l, e, l0, _⟩ := bitLen_spec x h0 (by omega)
    rcases Nat.lt_or_ge l 32 with hl | hl
    · omega
    · have := Nat.pow_le_pow_right (show 0 < 2 by omega) hl
      omega

set_option maxRecDepth 100000 in
set_option maxHeartbeats 1000000 in
theorem bitLen_any (a : Nat) (ao : Option Addr) (n ca : Nat) (w : World) (h : Sl w ao n ca (limbs a)) (hn : n ≤ 1000000000) :
    Calls Tryd.prog 62 #[.slice ao n ca] w fun e w' => e = .returned (.int .i64 (blen a)) ∧ w = w' := by
  rcases n with _ | m
  · have h0 : a = 0 := limbs_inj ((List.eq_nil_of_length_eq_zero h.len).trans limbs_zero.symm)
    go_enter Tryd.func62, Tryd.ntmps62
    go_wp2
    go_ret
    exact ⟨by rw [h0]; rfl, rfl⟩
  · have hb := blen_top h.len
    obtain ⟨b, off, rfl, hc⟩ := h.cells (by rw [h.len]; omega)
    have c1 := hc m (by rw [h.len]; omega)
    clear hc
    have hxr := (Wf.limbs a).getD m
    obtain ⟨x, hx⟩ : ∃ x, (limbs a).getD m 0 = x := ⟨_, rfl⟩
    rw [hx] at c1 hxr hb
    obtain ⟨x0, x1⟩ := hxr
    clear hx
    have HB := Lib.hid hb; clear hb
    have em : ((m : Int) + 1 == 0) = false := by apply beq_eq_false_iff_ne.2; omega
    have hl : (Lib.bitLen x.toNat : Int) ≤ 32 := by
      have := bitLen_32 (x := x.toNat) (by omega)
      omega
    go_enter Tryd.func62, Tryd.ntmps62
    go_wp2_with fail
    refine (Tryd.bits_Len32 x w x0 (by omega)).mono ?_
    rintro e w2 ⟨rfl, rfl⟩
    go_wp2
    go_ret
    exact ⟨by rw [← HB.out]; rfl, rfl⟩
end Go.Proofs.YtecaaklbhhjcjaaDoor

namespace Go.Proofs.YtecaaklbhhjcjaaDoor
open Go.RowKit

theorem blen_spec {a : Nat} (h : a ≠ 0) : ∃ l, blen a = l + 1 ∧ 2 ^ l ≤ a ∧ a < 2 ^ (l + 1) := by
  refine ⟨Nat.log2 a, by unfold blen; rw [if_neg h], Nat.log2_self_le h, Nat.lt_log2_self⟩

end Go.Proofs.YtecaaklbhhjcjaaDoor
