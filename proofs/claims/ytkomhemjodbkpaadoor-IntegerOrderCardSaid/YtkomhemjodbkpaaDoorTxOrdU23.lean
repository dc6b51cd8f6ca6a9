import Derived.Test.YtkomhemjodbkpaaDoorTxOrdU22
import Derived.BigRegion
import Derived.RegionTactic
import Derived.ChangeAlike
import Derived.Shelf.Small.Bits
import Derived.Test.YtkomhemjodbkpaaDoorProg
namespace Go.Proofs.YtkomhemjodbkpaaDoor
open Go.RowKit

/-- the limbs below j are shifted down, the others not yet -/
def Down (ds Lj : List Int) (m k j : Nat) : Prop :=
  Lj.length = m ∧ Wf Lj ∧ Lj.drop j = ds.drop j ∧ ds.length = m ∧ ∀ i, i < j → Lj.getD i 0 = ds.getD i 0 / 2 ^ k + ds.getD (i + 1) 0 % 2 ^ k * 2 ^ (32 - k)

theorem Down.start {ds : List Int} {m k : Nat} (h : ds.length = m) (hw : Wf ds) : Down ds ds m k 0 := ⟨h, hw, rfl, h, fun i hi => absurd hi (by omega)⟩

theorem pow_split {k : Nat} (hk : k < 32) : (2 : Int) ^ k * 2 ^ (32 - k) = 4294967296 := by rw [← Int.pow_add, show k + (32 - k) = 32 by omega]; rfl

/-- one limb shifted down, with the bits of the next one -/
theorem limb_down {y z : Int} {k : Nat} (hk : k < 32) (y0 : 0 ≤ y) (y1 : y < 4294967296) :
    bits BinOp.or IntKind.u32 (y / 2 ^ k) (z * 2 ^ (32 - k) % 4294967296) = y / 2 ^ k + z % 2 ^ k * 2 ^ (32 - k) ∧ 0 ≤ y / 2 ^ k + z % 2 ^ k * 2 ^ (32 - k) ∧ y / 2 ^ k + z % 2 ^ k * 2 ^ (32 - k) < 4294967296 := by
  have hp : (0 : Int) < 2 ^ k := Int.pow_pos (by omega)
  have hpr : (0 : Int) < 2 ^ (32 - k) := Int.pow_pos (by omega)
  have hp2 := pow_split hk
  have a0 : 0 ≤ y / 2 ^ k := Int.ediv_nonneg y0 (by omega)
  have a1 : y / 2 ^ k < 2 ^ (32 - k) := Int.ediv_lt_of_lt_mul hp (by rw [Int.mul_comm, hp2]; exact y1)
  have hq : z * 2 ^ (32 - k) % 4294967296 = z % 2 ^ k * 2 ^ (32 - k) := by
    rw [← hp2, Int.mul_comm z, Int.mul_comm (2 ^ k), Int.mul_emod_mul_of_pos _ _ hpr, Int.mul_comm]
  have q0 : 0 ≤ z % 2 ^ k := Int.emod_nonneg _ (by omega)
  have q1 : z % 2 ^ k + 1 ≤ 2 ^ k := Int.emod_lt_of_pos _ hp
  have h2 := Int.mul_le_mul_of_nonneg_right q1 (Int.le_of_lt hpr)
  rw [hp2, Int.add_mul, Int.one_mul] at h2
  have h3 : 0 ≤ z % 2 ^ k * 2 ^ (32 - k) := Int.mul_nonneg q0 (Int.le_of_lt hpr)
  rw [hq]
  refine ⟨?_, by omega, by omega⟩
  by_cases h0 : k = 0
  · subst h0
    have e : z % 2 ^ 0 * 2 ^ (32 - 0) = 0 := by simp [Int.emod_one]
    rw [e]
    obtain ⟨a, ha⟩ := Int.eq_ofNat_of_zero_le a0
    rw [ha]
    have := bits_or_u32_nat a 0 (by simp at a1; omega) (by omega)
    simpa using this
  · exact or_low (by omega) a0 a1 q0 (by omega)

theorem Down.step {ds Lj : List Int} {m k j : Nat} (h : Down ds Lj m k j) (hj : j < m) (v : Int) (hv : v = ds.getD j 0 / 2 ^ k + ds.getD (j + 1) 0 % 2 ^ k * 2 ^ (32 - k)) (h0 : 0 ≤ v ∧ v < 4294967296) :
    Down ds (Lj.set j v) m k (j + 1) := by
  obtain ⟨h1, h2, h3, h4, h5⟩ := h
  refine ⟨by simp [h1], h2.set _ h0, ?_, h4, ?_⟩
  · have : (Lj.drop j).drop 1 = (ds.drop j).drop 1 := by rw [h3]
    rw [List.drop_drop, List.drop_drop] at this
    rw [← this, List.drop_set_of_lt (by omega)]
  · intro i hi
    rw [getD_set _ _ _ _ (by omega)]
    by_cases he : j = i
    · subst he; rw [if_pos rfl]; exact hv
    · rw [if_neg he]; exact h5 i (by omega)

/-- all limbs shifted down -/
def shr (k : Nat) : List Int → List Int
  | [] => []
  | z :: rest => (z / 2 ^ k + rest.getD 0 0 % 2 ^ k * 2 ^ (32 - k)) :: shr k rest

theorem shr_length (k : Nat) (ds : List Int) : (shr k ds).length = ds.length := by
  induction ds with
  | nil => rfl
  | cons z r ih => simp [shr, ih]
theorem shr_getD (k : Nat) (ds : List Int) (i : Nat) (h : i < ds.length) : (shr k ds).getD i 0 = ds.getD i 0 / 2 ^ k + ds.getD (i + 1) 0 % 2 ^ k * 2 ^ (32 - k) := by
  induction ds generalizing i with
  | nil => simp at h
  | cons z r ih =>
    cases i with
    | zero => simp [shr]
    | succ i =>
      have := ih i (by simpa using h)
      simpa [shr] using this

theorem num_shr {k : Nat} (hk : k < 32) (ds : List Int) : num (shr k ds) = num ds / 2 ^ k := by
  have hp : (0 : Int) < 2 ^ k := Int.pow_pos (by omega)
  have hp2 := pow_split hk
  induction ds with
  | nil => simp [shr, num]
  | cons z r ih =>
    simp only [shr, num, ih]
    have e1 : (z + 4294967296 * num r) / 2 ^ k = z / 2 ^ k + 2 ^ (32 - k) * num r := by
      rw [← hp2, Int.mul_assoc, Int.add_mul_ediv_left _ _ (by omega)]
    have e2 : num r % 2 ^ k = r.getD 0 0 % 2 ^ k := by
      cases r with
      | nil => simp [num]
      | cons h t =>
        simp only [num, List.getD_cons_zero]
        rw [← hp2, Int.mul_assoc, Int.add_mul_emod_self_left]
    have e3 := Int.mul_ediv_add_emod (num r) (2 ^ k)
    rw [e1, ← e2]
    have e4 : 2 ^ (32 - k) * num r = 4294967296 * (num r / 2 ^ k) + num r % 2 ^ k * 2 ^ (32 - k) := by
      have : 2 ^ (32 - k) * num r = 2 ^ (32 - k) * (2 ^ k * (num r / 2 ^ k) + num r % 2 ^ k) := by rw [e3]
      rw [this, Int.mul_add, ← Int.mul_assoc, Int.mul_comm (2 ^ (32 - k)) (2 ^ k), hp2, Int.mul_comm (2 ^ (32 - k)) (num r % 2 ^ k)]
    rw [e4]
    omega

theorem Down.done {ds Lj : List Int} {m k : Nat} (hk : k < 32) (h : Down ds Lj m k m) : num Lj = num ds / 2 ^ k := by
  obtain ⟨h1, _, _, h4, h5⟩ := h
  have : Lj = shr k ds := by
    apply List.ext_getElem (by rw [h1, shr_length, h4])
    intro i hi hi2
    rw [← getD_at hi, ← getD_at hi2, h5 i (by omega), shr_getD k ds i (by omega)]
  rw [this, num_shr hk]

theorem pow32 (s k : Nat) : (2 : Nat) ^ (s * 32 + k) = 4294967296 ^ s * 2 ^ k := by
  rw [Nat.pow_add, Nat.mul_comm s 32, Nat.pow_mul]

/-- a number times a power of two -/
theorem shiftUp_any (a e : Nat) (ao : Option Addr) (n ca : Nat) (w : World) (ha : Sl w ao n ca (limbs a)) (hn : n ≤ 1000000000) (he : e ≤ 30000000000) :
    Calls Tryd.prog 61 #[.slice ao n ca, .int .i64 (e : Int)] w fun r w' => ∃ ao' l cap, r = .returned (.slice ao' l cap) ∧ Sl w' ao' l cap (limbs (a * 2 ^ e)) ∧ Below w.heap.size w w' := by
  have h := shiftUp_raw (limbs a) (e / 32) (e % 32) ao n ca w ha (by omega) hn (by omega)
  have e1 : e / 32 * 32 + e % 32 = e := by omega
  have e2 : (num (limbs a) * 4294967296 ^ (e / 32) * 2 ^ (e % 32)).toNat = a * 2 ^ e := by
    rw [num_limbs]
    have : (a : Int) * 4294967296 ^ (e / 32) * 2 ^ (e % 32) = ((a * 2 ^ e : Nat) : Int) := by
      rw [Int.natCast_mul]
      conv => rhs; rw [← e1, pow32, Int.natCast_mul, Int.natCast_pow, Int.natCast_pow]
      rw [Int.mul_assoc]; rfl
    rw [this, Int.toNat_natCast]
  rw [e1, e2] at h
  exact h

set_option maxRecDepth 100000 in
set_option maxHeartbeats 1000000 in
theorem shiftDown_far (x : Int) (ao : Option Addr) (n ca : Nat) (w : World) (hx0 : 0 ≤ x) (hx1 : x ≤ 100000000000) (hn : (n : Int) ≤ x / 32) :
    Calls Tryd.prog 63 #[.slice ao n ca, .int .i64 x] w fun r w' => r = .returned (.slice none 0 0) ∧ w = w' := by
  go_enter Tryd.func63, Tryd.ntmps63
  go_wp2
  go_ret
  exact ⟨rfl, rfl⟩

end Go.Proofs.YtkomhemjodbkpaaDoor

namespace Go.Proofs
open Go.Shelf
def Tryd.lays133_ren : Go.Shelf.Ren := ⟨fun | 133 => 60 | 128 => 78 | n => n, fun | 51 => 47 | 3 => 3 | 4 => 4 | 46 => 48 | 5 => 5 | 9 => 9 | n => n, fun | n => n⟩
theorem Tryd.lays133 : Go.Proofs.Lays.n133 Tryd.prog Tryd.lays133_ren := {
  mixed := by kernel_rfl
  f128 := Tryd.func78.trans (congrArg some (by kernel_rfl))
  f133 := Tryd.func60.trans (congrArg some (by kernel_rfl))
  t3 := Tryd.underlying3
  a3 := Tryd.isAgg3
  z3 := Tryd.sizeOf3
  v3 := Tryd.zeroValue3
  t4 := Tryd.underlying4
  a4 := Tryd.isAgg4
  z4 := Tryd.sizeOf4
  v4 := Tryd.zeroValue4
  t5 := Tryd.underlying5
  a5 := Tryd.isAgg5
  z5 := Tryd.sizeOf5
  v5 := Tryd.zeroValue5
  t9 := Tryd.underlying9
  a9 := Tryd.isAgg9
  z9 := Tryd.sizeOf9
  v9 := Tryd.zeroValue9
  t46 := Tryd.underlying48
  a46 := Tryd.isAgg48
  z46 := Tryd.sizeOf48
  v46 := Tryd.zeroValue48
  t51 := Tryd.underlying47
  a51 := Tryd.isAgg47
  z51 := Tryd.sizeOf47
  v51 := Tryd.zeroValue47 }
theorem Tryd.bits_LeadingZeros32 (x : Int) (w : World) (h0 : 0 ≤ x) (h1 : x ≤ 4294967295) :
    Calls Tryd.prog 60 #[.int .u32 x] w fun e w' => e = .returned (.int .i64 (32 - (Lib.bitLen x.toNat : Int))) ∧ w' = w := Any.bits_LeadingZeros32 Tryd.lays133 x w h0 h1
end Go.Proofs
