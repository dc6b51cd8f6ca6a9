import Derived.Test.YthicfkeiggcjjaaGreatDoorEcDlU3
import Derived.Laws.ShiftsVar
import Derived.Laws.ShiftsVarLaws
import Derived.Laws.Bits64b
namespace Go.Proofs.YthicfkeiggcjjaaGreatDoor
open Go.RowKit

theorem bits_or_u32_nat (a b : Nat) (ha : a < 4294967296) (hb : b < 4294967296) : bits BinOp.or IntKind.u32 (a : Int) (b : Int) = ((a ||| b : Nat) : Int) := by
  have hx : a ||| b < 2 ^ 32 := Nat.or_lt_two_pow (by omega) (by omega)
  have h1 : (BitVec.ofInt 32 (a : Int)).toNat = a := by
    rw [BitVec.ofInt_natCast, BitVec.toNat_ofNat]; exact Nat.mod_eq_of_lt (by omega)
  have h2 : (BitVec.ofInt 32 (b : Int)).toNat = b := by
    rw [BitVec.ofInt_natCast, BitVec.toNat_ofNat]; exact Nat.mod_eq_of_lt (by omega)
  show IntKind.u32.wrap ((BitVec.ofInt 32 (a : Int) ||| BitVec.ofInt 32 (b : Int)).toNat : Int) = _
  rw [BitVec.toNat_or, h1, h2]
  simp only [IntKind.wrap, IntKind.bits, IntKind.signed, Bool.false_and, Bool.false_eq_true, if_false]
  omega

theorem or_low {z q : Int} {k : Nat} (hk : k < 32) (z0 : 0 ≤ z) (z1 : z < 2 ^ k) (q0 : 0 ≤ q) (q1 : q * 2 ^ k < 4294967296) : bits BinOp.or IntKind.u32 z (q * 2 ^ k) = z + q * 2 ^ k := by
  obtain ⟨a, rfl⟩ := Int.eq_ofNat_of_zero_le z0
  obtain ⟨b, rfl⟩ := Int.eq_ofNat_of_zero_le q0
  have h1 : a < 2 ^ k := by
    have : ((a : Nat) : Int) < ((2 ^ k : Nat) : Int) := by rw [Int.natCast_pow]; exact z1
    exact Int.ofNat_lt.1 this
  have h2 : b * 2 ^ k < 4294967296 := by
    have : ((b * 2 ^ k : Nat) : Int) < ((4294967296 : Nat) : Int) := by rw [Int.natCast_mul, Int.natCast_pow]; exact q1
    exact Int.ofNat_lt.1 this
  have h3 : 2 ^ k < 2 ^ 32 := Nat.pow_lt_pow_right (by omega) hk
  have e := bits_or_u32_nat a (b * 2 ^ k) (by omega) h2
  have e2 : a ||| b * 2 ^ k = a + b * 2 ^ k := by
    have := Nat.two_pow_add_eq_or_of_lt h1 b
    rw [Nat.or_comm, Nat.mul_comm b, ← this]; omega
  rw [e2, Int.natCast_add, Int.natCast_mul, Int.natCast_pow] at e
  exact e

/-- one limb shifted: what stays, and what goes over -/
theorem limb_shift {y z : Int} {k : Nat} (hk : k < 32) (y0 : 0 ≤ y) (y1 : y < 4294967296) (z0 : 0 ≤ z) (z1 : z < 2 ^ k) :
    0 ≤ bits BinOp.or IntKind.u32 z (IntKind.u64.wrap (y * 2 ^ k) % 4294967296) ∧ bits BinOp.or IntKind.u32 z (IntKind.u64.wrap (y * 2 ^ k) % 4294967296) < 4294967296 ∧
    0 ≤ IntKind.u64.wrap (y * 2 ^ k) / 4294967296 % 4294967296 ∧ IntKind.u64.wrap (y * 2 ^ k) / 4294967296 % 4294967296 < 2 ^ k ∧ IntKind.u64.wrap (y * 2 ^ k) / 4294967296 % 4294967296 < 4294967296 ∧
    bits BinOp.or IntKind.u32 z (IntKind.u64.wrap (y * 2 ^ k) % 4294967296) + 4294967296 * (IntKind.u64.wrap (y * 2 ^ k) / 4294967296 % 4294967296) = z + y * 2 ^ k := by
  have hp : (0 : Int) < 2 ^ k := by exact Int.pow_pos (by omega)
  have hp2 : (2 : Int) ^ k * 2 ^ (32 - k) = 4294967296 := by rw [← Int.pow_add, show k + (32 - k) = 32 by omega]; rfl
  have hpr : (0 : Int) < 2 ^ (32 - k) := Int.pow_pos (by omega)
  have hw0 : 0 ≤ y * 2 ^ k := Int.mul_nonneg y0 (by omega)
  have hw1 : y * 2 ^ k < 4294967296 * 2 ^ k := Int.mul_lt_mul_of_pos_right y1 hp
  have hp32 : (2 : Int) ^ k ≤ 4294967296 := by
    rw [← hp2]
    have := Int.mul_le_mul_of_nonneg_left (show (1 : Int) ≤ 2 ^ (32 - k) by omega) (Int.le_of_lt hp)
    rwa [Int.mul_one] at this
  have hwr : IntKind.u64.wrap (y * 2 ^ k) = y * 2 ^ k := by
    rw [IntKind.wrap_u64]; exact Int.emod_eq_of_lt hw0 (by omega)
  rw [hwr]
  have hc1 : y * 2 ^ k / 4294967296 < 2 ^ k := Int.ediv_lt_of_lt_mul (by omega) (by rw [Int.mul_comm (2 ^ k) 4294967296]; exact hw1)
  have hc0 : 0 ≤ y * 2 ^ k / 4294967296 := Int.ediv_nonneg hw0 (by omega)
  have hcm : y * 2 ^ k / 4294967296 % 4294967296 = y * 2 ^ k / 4294967296 := Int.emod_eq_of_lt hc0 (by omega)
  rw [hcm]
  -- the low part is a multiple of 2^k
  have hq : y * 2 ^ k % 4294967296 = (y % 2 ^ (32 - k)) * 2 ^ k := by
    rw [← hp2, Int.mul_comm y, Int.mul_emod_mul_of_pos _ _ hp, Int.mul_comm]
  have hl1 : y * 2 ^ k % 4294967296 < 4294967296 := Int.emod_lt_of_pos _ (by omega)
  have hor := or_low (q := y % 2 ^ (32 - k)) hk z0 z1 (Int.emod_nonneg _ (by omega)) (by rw [← hq]; exact hl1)
  rw [hq, hor, ← hq]
  have hl0 : 0 ≤ y * 2 ^ k % 4294967296 := Int.emod_nonneg _ (by omega)
  -- z + low < R : both are below, and low ≤ R - 2^k
  have hle : y * 2 ^ k % 4294967296 + 2 ^ k ≤ 4294967296 := by
    rw [hq]
    have h1 : y % 2 ^ (32 - k) + 1 ≤ 2 ^ (32 - k) := Int.emod_lt_of_pos _ hpr
    have h2 := Int.mul_le_mul_of_nonneg_right h1 (Int.le_of_lt hp)
    rw [Int.add_mul, Int.one_mul, Int.mul_comm (2 ^ (32 - k)) (2 ^ k), hp2] at h2
    exact h2
  refine ⟨by omega, by omega, hc0, hc1, by omega, by omega⟩

/-- j limbs are shifted -/
def Up (zs Lj : List Int) (n s k j : Nat) : Prop :=
  Lj.length = s + n + 1 ∧ Wf Lj ∧ num Lj = num (zs.take j) * 4294967296 ^ s * 2 ^ k ∧ Lj.getD (s + j) 0 < 2 ^ k ∧ ∀ i, s + j < i → Lj.getD i 0 = 0

theorem getD_rep (n i : Nat) : (List.replicate n (0 : Int)).getD i 0 = 0 := by
  by_cases h : i < n <;> simp [List.getD, h]

theorem Up.start (zs : List Int) (n s k : Nat) : Up zs (List.replicate (s + n + 1) 0) n s k 0 :=
  ⟨by simp, Wf.replicate _, by simp [num_replicate, num], by rw [getD_rep]; exact Int.pow_pos (by omega), fun i _ => getD_rep _ i⟩

theorem Up.step {zs Lj : List Int} {n s k j : Nat} (h : Up zs Lj n s k j) (hj : j < n) (hz : zs.length = n) (a c : Int) (a0 : 0 ≤ a) (a1 : a < 4294967296) (c0 : 0 ≤ c) (c1 : c < 2 ^ k) (c2 : c < 4294967296)
    (he : a + 4294967296 * c = Lj.getD (s + j) 0 + zs.getD j 0 * 2 ^ k) : Up zs ((Lj.set (s + j) a).set (s + j + 1) c) n s k (j + 1) := by
  obtain ⟨h1, h2, h3, h4, h5⟩ := h
  refine ⟨by simp [h1], (h2.set _ ⟨a0, a1⟩).set _ ⟨c0, c2⟩, ?_, ?_, ?_⟩
  · rw [num_set _ _ _ (by simp; omega), num_set _ _ _ (by omega), h3, getD_set _ _ _ _ (by omega), if_neg (by omega), h5 (s + j + 1) (by omega), num_take_succ zs j (by omega)]
    have e1 : (4294967296 : Int) ^ (s + j + 1) * (c - 0) = 4294967296 ^ (s + j) * (4294967296 * c) := by
      rw [Int.pow_succ, Int.sub_zero, Int.mul_assoc]
    have e2 : (4294967296 : Int) ^ (s + j) * (a - Lj.getD (s + j) 0) + 4294967296 ^ (s + j) * (4294967296 * c) = 4294967296 ^ (s + j) * (zs.getD j 0 * 2 ^ k) := by
      rw [← Int.mul_add]
      congr 1
      omega
    have e3 : (4294967296 : Int) ^ (s + j) * (zs.getD j 0 * 2 ^ k) = 4294967296 ^ j * zs.getD j 0 * 4294967296 ^ s * 2 ^ k := by
      rw [Int.pow_add]
      simp only [Int.mul_assoc, Int.mul_comm, Int.mul_left_comm]
    rw [e1, Int.add_assoc, e2, e3, Int.add_mul, Int.add_mul]
  · rw [show s + (j + 1) = s + j + 1 by omega, getD_set _ _ _ _ (by simp; omega), if_pos rfl]
    exact c1
  · intro i hi
    rw [getD_set _ _ _ _ (by simp; omega), if_neg (by omega), getD_set _ _ _ _ (by omega), if_neg (by omega)]
    exact h5 i (by omega)

set_option maxRecDepth 100000 in
set_option maxHeartbeats 1000000 in
theorem shiftUp_raw (zs : List Int) (s k : Nat) (ao : Option Addr) (n ca : Nat) (w : World) (ha : Sl w ao n ca zs) (hk : k < 32) (hn : n ≤ 1000000000) (hs : s ≤ 1000000000) :
    Calls Tryz.prog 110 #[.slice ao n ca, .int .i64 ((s * 32 + k : Nat) : Int)] w fun e w' => ∃ ao' l cap, e = .returned (.slice ao' l cap) ∧ Sl w' ao' l cap (limbs (num zs * 4294967296 ^ s * 2 ^ k).toNat) ∧ Below w.heap.size w w' := by
  have hd : ((s * 32 + k : Nat) : Int) / 32 = (s : Int) := by omega
  have hr : ((s * 32 + k : Nat) : Int) % 32 = (k : Int) := by omega
  obtain ⟨x, hx⟩ : ∃ x : Int, ((s * 32 + k : Nat) : Int) = x := ⟨_, rfl⟩
  rw [hx] at hd hr ⊢
  have hx0 : 0 ≤ x := by omega
  have hx1 : x ≤ 100000000000 := by omega
  have HX := Lib.hid hx; clear hx
  go_enter Tryz.func110, Tryz.ntmps110
  go_wp2_with (refine wpList_make_u32 _ rfl _ _ rfl _ (s + n + 1) rfl rfl (by omega) (by omega) ?_)
  intro w1 hb1 hw1
  have hsa := ha.cells.stay_below hw1 (Nat.le_refl _)
  generalize hg : w.heap.size = g at *
  have HG := Lib.hid hg; clear hg
  have hal := ha.len
  have HAL := Lib.hid hal; clear hal
  have hwz := ha.wf
  go_wp2
  go_loopw [8, 9, 10, 23] (fun _ _ _ i wr => ∃ (j : Nat) (Lj : List Int), j ≤ n ∧ i = .int .i64 j ∧ Up zs Lj n s k j ∧ Blk wr g Lj ∧ Only g w1 wr)
    (fun _ _ _ i _ => n - (intOf i).toNat)
  case atStart => exact ⟨0, _, Nat.zero_le _, rfl, Up.start zs n s k, hb1, Only.refl g w1⟩
  case round =>
    obtain ⟨j, Lj, hj, rfl, hU, hbk, ho⟩ := hrel
    have hl := hU.1
    have HU := Lib.hid hU; clear hU
    by_cases hlt : j < n
    · obtain ⟨bb, ob, rfl, hcb⟩ := hsa _ ho (by rw [HAL.out]; omega)
      have c1 := hcb j (by rw [HAL.out]; omega)
      clear hcb
      have hyr := hwz.getD j
      obtain ⟨y, hy⟩ : ∃ y, zs.getD j 0 = y := ⟨_, rfl⟩
      rw [hy] at c1 hyr
      have HY := Lib.hid hy; clear hy
      obtain ⟨y0, y1⟩ := hyr
      have c2 := hbk.cell (s + j) (by omega)
      have c3 := hbk.frozen (s + j)
      have c4 := hbk.cell (s + j + 1) (by omega)
      have c5 := hbk.frozen (s + j + 1)
      obtain ⟨z, hz⟩ : ∃ z, Lj.getD (s + j) 0 = z := ⟨_, rfl⟩
      obtain ⟨z', hz'⟩ : ∃ z, Lj.getD (s + j + 1) 0 = z := ⟨_, rfl⟩
      rw [hz] at c2
      rw [hz'] at c4
      have HZ := Lib.hid hz; clear hz
      have HZ' := Lib.hid hz'; clear hz'
      have HL := Lib.hid hl; clear hl
      go_wp2
      go_roundw
      case rel =>
        have z0 := (HU.out.2.1.getD (s + j)).1
        have z1 := HU.out.2.2.2.1
        rw [HZ.out] at z0 z1
        obtain ⟨q0, q1, q2, q3, q4, q5⟩ := limb_shift hk y0 y1 z0 z1
        have st := HU.out.step (by omega) HAL.out _ _ q0 q1 q2 q3 q4 (by rw [HZ.out, HY.out]; exact q5)
        exact ⟨j + 1, _, by omega, by go_num, st, (hbk.set _ _).set _ _, (ho.setCell _ _).setCell _ _⟩
      case measure => simp [intOf] <;> omega
    · obtain rfl : j = n := by omega
      have HL := Lib.hid hl; clear hl
      go_wp2_with fail
      refine (trim_sl _ _ _ Lj wr (hbk.sl HU.out.2.1 HL.out (by omega) (Nat.le_refl _))).mono ?_
      rintro e w4 ⟨i, rfl, hs4, rfl⟩
      go_wp2
      go_ret
      refine ⟨_, i, _, rfl, ?_, by rw [HG.out]; exact hw1.trans (ho.below (Nat.le_refl _))⟩
      rw [HU.out.2.2.1, List.take_of_length_le (by rw [HAL.out]; exact Nat.le_refl _)] at hs4
      exact hs4
end Go.Proofs.YthicfkeiggcjjaaGreatDoor
