import Derived.Test.YtecaaklbhhjcjaaGreatDoorDividesU16
import Derived.Test.YtecaaklbhhjcjaaGreatDoorDividesU9
import Derived.Test.YtecaaklbhhjcjaaGreatDoorDividesU12
import Derived.Test.YtecaaklbhhjcjaaGreatDoorDividesU13
import Derived.Test.YtecaaklbhhjcjaaGreatDoorDividesU0
import Derived.Test.YtecaaklbhhjcjaaGreatDoorDividesU5
namespace Go.Proofs.YtecaaklbhhjcjaaGreatDoor
open Go.RowKit

/-- what three limbs say -/
theorem three_limbs {N k : Nat} (hk : k < 32) (h : N / 2 ^ k < 18446744073709551616) :
    ∃ l0 l1 l2 : Nat, N % 4294967296 = l0 ∧ N / 4294967296 % 4294967296 = l1 ∧ N / 4294967296 / 4294967296 % 4294967296 = l2 ∧ l0 < 4294967296 ∧ l1 < 4294967296 ∧ l2 * 2 ^ (64 - k) < 18446744073709551616 ∧ (l0 + l1 * 4294967296) / 2 ^ k + l2 * 2 ^ (64 - k) = N / 2 ^ k ∧ (l0 + l1 * 4294967296) / 2 ^ k < 2 ^ (64 - k) := by
  have hp : 0 < 2 ^ k := Nat.pow_pos (by omega)
  have hp2 : 2 ^ k * 2 ^ (64 - k) = 18446744073709551616 := by rw [← Nat.pow_add, show k + (64 - k) = 64 by omega]
  have hk2 : 2 ^ k ≤ 2147483648 := by
    have := Nat.pow_le_pow_right (show 0 < 2 by omega) (show k ≤ 31 by omega)
    omega
  have hN : N < 18446744073709551616 * 2 ^ k := (Nat.div_lt_iff_lt_mul hp).1 h
  have hl2 : N / 4294967296 / 4294967296 < 2 ^ k := by
    rw [Nat.div_div_eq_div_mul]
    exact Nat.div_lt_of_lt_mul (by omega)
  have hm : N / 4294967296 / 4294967296 % 4294967296 = N / 4294967296 / 4294967296 := Nat.mod_eq_of_lt (by omega)
  refine ⟨_, _, _, rfl, rfl, rfl, Nat.mod_lt _ (by omega), Nat.mod_lt _ (by omega), ?_, ?_, ?_⟩
  · rw [hm]
    calc _ < 2 ^ k * 2 ^ (64 - k) := Nat.mul_lt_mul_of_pos_right hl2 (Nat.pow_pos (by omega))
      _ = _ := hp2
  · rw [hm]
    have e : N = (N % 4294967296 + N / 4294967296 % 4294967296 * 4294967296) + 2 ^ k * (2 ^ (64 - k) * (N / 4294967296 / 4294967296)) := by
      rw [← Nat.mul_assoc, hp2]; omega
    conv => rhs; rw [e]
    rw [Nat.add_mul_div_left _ _ hp, Nat.mul_comm (2 ^ (64 - k))]
  · refine Nat.div_lt_of_lt_mul ?_
    rw [hp2]; omega

theorem limb_next (a s : Nat) : a / 4294967296 ^ (s + 1) = a / 4294967296 ^ s / 4294967296 := by
  rw [Nat.pow_succ, Nat.div_div_eq_div_mul]

set_option maxRecDepth 100000 in
set_option maxHeartbeats 2000000 in
theorem bitsN_any (a e : Nat) (ao : Option Addr) (n ca : Nat) (w : World) (hs : Sl w ao n ca (limbs a)) (he : e ≤ 30000000000) (ha : a / 2 ^ e < 18446744073709551616) :
    Calls Tryz.prog 116 #[.slice ao n ca, .int .i64 (e : Int)] w fun r w' => r = .returned (.int .u64 ((a / 2 ^ e : Nat) : Int)) ∧ Below w.heap.size w w' := by
  obtain ⟨s, k, hk, rfl⟩ : ∃ s k, k < 32 ∧ e = s * 32 + k := ⟨e / 32, e % 32, by omega, by omega⟩
  have e1 : a / 2 ^ (s * 32 + k) = a / 4294967296 ^ s / 2 ^ k := by rw [pow32, Nat.div_div_eq_div_mul]
  rw [e1] at ha ⊢
  obtain ⟨u, v, z, hu, hv, hz, u1, v1, z1, hsum, hlow⟩ := three_limbs hk ha
  have l0 := limbs_at a s
  have l1 := limbs_at a (s + 1)
  have l2 := limbs_at a (s + 2)
  rw [show s + 2 = s + 1 + 1 from rfl, limb_next, limb_next, hz] at l2
  rw [limb_next, hv] at l1
  rw [hu] at l0
  rw [← hsum]
  clear hsum ha hu hv hz e1
  have hd : ((s * 32 + k : Nat) : Int) / 32 = (s : Int) := by omega
  have hr : ((s * 32 + k : Nat) : Int) % 32 = (k : Int) := by omega
  obtain ⟨x, hx⟩ : ∃ x : Int, ((s * 32 + k : Nat) : Int) = x := ⟨_, rfl⟩
  rw [hx] at hd hr ⊢
  have hx0 : 0 ≤ x := by omega
  have hx1 : x ≤ 30000000000 := by omega
  have hsb : s ≤ 1000000000 := by omega
  have HX := Lib.hid hx; clear hx
  have v0' : (0 : Int) ≤ (v : Int) := by omega
  have hor : bits BinOp.or IntKind.u64 (u : Int) ((v : Int) * 4294967296) = ((u + v * 4294967296 : Nat) : Int) := by
    rw [or_comm64i, or_hl (by omega) (by omega) (by omega) (by omega)]; omega
  obtain ⟨low, hlw⟩ : ∃ low : Nat, u + v * 4294967296 = low := ⟨_, rfl⟩
  rw [hlw] at hor hlow ⊢
  have hlow0 : low < 18446744073709551616 := by omega
  have hp64 : (2 : Int) ^ k * 2 ^ (64 - k) = 18446744073709551616 := by rw [← Int.pow_add, show k + (64 - k) = 64 by omega]; rfl
  have hor2 : bits BinOp.or IntKind.u64 ((low : Int) / 2 ^ k) ((z : Int) * 2 ^ (64 - k)) = ((low / 2 ^ k + z * 2 ^ (64 - k) : Nat) : Int) := by
    have f1 : (low : Int) / 2 ^ k = ((low / 2 ^ k : Nat) : Int) := by rw [Int.natCast_ediv, Int.natCast_pow]; rfl
    have f2 : (z : Int) * 2 ^ (64 - k) = ((z * 2 ^ (64 - k) : Nat) : Int) := by rw [Int.natCast_mul, Int.natCast_pow]; rfl
    rw [f1, f2, bits_or_u64_nat _ _ (Nat.lt_of_le_of_lt (Nat.div_le_self _ _) hlow0) z1, Nat.or_comm, Nat.mul_comm z, Nat.add_comm, ← Nat.two_pow_add_eq_or_of_lt hlow]
  have hz0 : (0 : Int) ≤ (z : Int) * 2 ^ (64 - k) := Int.mul_nonneg (by omega) (Int.le_of_lt (Int.pow_pos (by omega)))
  have hzm : IntKind.u64.wrap ((z : Int) * 2 ^ (64 - k)) = (z : Int) * 2 ^ (64 - k) := by
    have f2 : (z : Int) * 2 ^ (64 - k) = ((z * 2 ^ (64 - k) : Nat) : Int) := by rw [Int.natCast_mul, Int.natCast_pow]; rfl
    rw [f2, IntKind.wrap_u64]
    omega
  obtain ⟨res, hres⟩ : ∃ res : Int, ((low / 2 ^ k + z * 2 ^ (64 - k) : Nat) : Int) = res := ⟨_, rfl⟩
  rw [hres] at hor2 ⊢
  have HOR2 := Lib.hid hor2
  have HZM := Lib.hid hzm
  clear hres hp64 hlow hlw hz0 hor2 hzm
  have L0 := Lib.hid l0
  have L1 := Lib.hid l1
  have L2 := Lib.hid l2
  clear l0 l1 l2 z1
  have hgw : (w.alloc (.cells #[.slice ao n ca] 22)).cell? ⟨w.heap.size, 0, none⟩ = some (.slice ao n ca) := by go_simp
  have hB := (Below.refl w.heap.size w).alloc (Nat.le_refl _) (.cells #[.slice ao n ca] 22)
  have hs1 := hs.below hB
  go_enter Tryz.func116, Tryz.ntmps116
  go_wp2_with fail
  generalize w.alloc (.cells #[.slice ao n ca] 22) = W at *
  refine (limb_in ao n ca _ (s : Int) u _ W hgw hs1 (by omega) (by omega) (by exact L0.out)).mono ?_
  rintro e w' ⟨rfl, rfl⟩
  go_wp2_with fail
  refine (limb_in ao n ca _ ((s : Int) + 1) v _ W hgw hs1 (by omega) (by omega) (by exact L1.out)).mono ?_
  rintro e w' ⟨rfl, rfl⟩
  go_wp2
  go_quiet ((go_at_call 185; exact quiet_left (limb_in ao n ca _ ((s : Int) + 2) z _ _ (by exact hgw) (by exact hs1.drewN _) (by omega) (by omega) (by exact L2.out))))
  go_wp2
  go_ret
  refine ⟨?_, below_drewN hB _⟩
  show Ending.returned (Value.int IntKind.u64 (bits BinOp.or IntKind.u64 ((low : Int) / 2 ^ k) (IntKind.u64.wrap ((z : Int) * 2 ^ (64 - k))))) = _
  rw [HZM.out, HOR2.out]
end Go.Proofs.YtecaaklbhhjcjaaGreatDoor

namespace Go.Proofs.YtecaaklbhhjcjaaGreatDoor
open Go.RowKit

/-- how many bits a number has -/
def blen (a : Nat) : Nat := if a = 0 then 0 else Nat.log2 a + 1

theorem blen_of {a k : Nat} (h0 : 2 ^ k ≤ a) (h1 : a < 2 ^ (k + 1)) : blen a = k + 1 := by
  have ha : a ≠ 0 := by have := Nat.pos_of_ne_zero (show 2 ^ k ≠ 0 by simp); omega
  unfold blen
  rw [if_neg ha, (Nat.log2_eq_iff ha).2 ⟨h0, h1⟩]

theorem blen_top {a m : Nat} (hm : (limbs a).length = m + 1) : ((m : Int) * 32 + (Lib.bitLen ((limbs a).getD m 0).toNat : Int)) = (blen a : Int) := by
  have h1 : a < 4294967296 ^ (m + 1) := (limbs_len_le a (m + 1)).1 (by omega)
  have h2 : 4294967296 ^ m ≤ a := by
    rcases Nat.lt_or_ge a (4294967296 ^ m) with h | h
    · have := (limbs_len_le a m).2 h; omega
    · exact h
  have hpm : 0 < 4294967296 ^ m := Nat.pos_of_ne_zero (by simp)
  have hd1 : a / 4294967296 ^ m < 4294967296 := by
    rw [Nat.div_lt_iff_lt_mul hpm, Nat.mul_comm, ← Nat.pow_succ]; exact h1
  have hd0 : 0 < a / 4294967296 ^ m := Nat.div_pos h2 hpm
  have ht : (limbs a).getD m 0 = ((a / 4294967296 ^ m : Nat) : Int) := by
    rw [limbs_at, Nat.mod_eq_of_lt hd1]
  rw [ht, Int.toNat_natCast]
  have hdm := Nat.div_add_mod a (4294967296 ^ m)
  have hml := Nat.mod_lt a hpm
  generalize htt : a / 4294967296 ^ m = t at *
  generalize a % 4294967296 ^ m = r at *
  obtain ⟨l, e, l0, l1⟩ := bitLen_spec t (by omega) (by omega)
  have hp : (4294967296 : Nat) ^ m = 2 ^ (m * 32) := by rw [Nat.mul_comm, Nat.pow_mul]
  rw [e, blen_of (k := m * 32 + l)]
  · omega
  · rw [Nat.pow_add, ← hp]
    have := Nat.mul_le_mul_left (4294967296 ^ m) l0
    omega
  · rw [Nat.add_assoc, Nat.pow_add, ← hp]
    have := Nat.mul_le_mul_left (4294967296 ^ m) (show t + 1 ≤ 2 ^ (l + 1) from l1)
    rw [Nat.mul_add, Nat.mul_one] at this
    omega

theorem bitLen_32 {x : Nat} (h : x < 4294967296) : Lib.bitLen x ≤ 32 := by
  by_cases h0 : x = 0
  · rw [h0, bitLen_zero]; omega
  · obtain ⟨l, e, l0, _⟩ := bitLen_spec x h0 (by omega)
    rcases Nat.lt_or_ge l 32 with hl | hl
    · omega
    · have := Nat.pow_le_pow_right (show 0 < 2 by omega) hl
      omega

set_option maxRecDepth 100000 in
set_option maxHeartbeats 1000000 in
theorem bitLen_any (a : Nat) (ao : Option Addr) (n ca : Nat) (w : World) (h : Sl w ao n ca (limbs a)) (hn : n ≤ 1000000000) :
    Calls Tryz.prog 204 #[.slice ao n ca] w fun e w' => e = .returned (.int .i64 (blen a)) ∧ w = w' := by
  rcases n with _ | m
  · have h0 : a = 0 := limbs_inj ((List.eq_nil_of_length_eq_zero h.len).trans limbs_zero.symm)
    go_enter Tryz.func204, Tryz.ntmps204
    go_wp2
    go_ret
    exact ⟨by rw [h0]; rfl, rfl⟩
  · have hb := blen_top h.len
    obtain ⟨b, off, rfl, hc⟩ := h.cells (by rw [h.len]; omega)
    have c1 := hc m (by rw [h.len]; omega)
    clear hc
    have hxr := (Wf.limbs a).getD m
    obtain ⟨x, hx⟩ : ∃ x, (limbs a).getD m 0 = x := ⟨_, rfl⟩
    rw [hx] at c1 hxr hb
    obtain ⟨x0, x1⟩ := hxr
    clear hx
    have HB := Lib.hid hb; clear hb
    have em : ((m : Int) + 1 == 0) = false := by apply beq_eq_false_iff_ne.2; omega
    have hl : (Lib.bitLen x.toNat : Int) ≤ 32 := by
      have := bitLen_32 (x := x.toNat) (by omega)
      omega
    go_enter Tryz.func204, Tryz.ntmps204
    go_wp2_with fail
    refine (Tryz.bits_Len32 x w x0 (by omega)).mono ?_
    rintro e w2 ⟨rfl, rfl⟩
    go_wp2
    go_ret
    exact ⟨by rw [← HB.out]; rfl, rfl⟩
end Go.Proofs.YtecaaklbhhjcjaaGreatDoor

namespace Go.Proofs.YtecaaklbhhjcjaaGreatDoor
open Go.RowKit

theorem blen_spec {a : Nat} (h : a ≠ 0) : ∃ l, blen a = l + 1 ∧ 2 ^ l ≤ a ∧ a < 2 ^ (l + 1) := by
  refine ⟨Nat.log2 a, by unfold blen; rw [if_neg h], Nat.log2_self_le h, Nat.lt_log2_self⟩

theorem pow_limbs {k e : Nat} (h : k ≤ 32 * e) : 2 ^ k ≤ 4294967296 ^ e := by
  rw [show 4294967296 ^ e = 2 ^ (32 * e) by rw [Nat.pow_mul]]
  exact Nat.pow_le_pow_right (by omega) h

end Go.Proofs.YtecaaklbhhjcjaaGreatDoor
