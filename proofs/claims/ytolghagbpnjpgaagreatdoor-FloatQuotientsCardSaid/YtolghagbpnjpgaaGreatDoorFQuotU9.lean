import Derived.Test.YtolghagbpnjpgaaGreatDoorFQuotU8
import Derived.BigRegion
import Derived.RegionTactic
import Derived.ChangeAlike
import Derived.Test.YtolghagbpnjpgaaGreatDoorFQuotU5
import Derived.Test.YtolghagbpnjpgaaGreatDoorFQuotU7
namespace Go.Proofs.YtolghagbpnjpgaaGreatDoor
open Go.RowKit

/-- the limbs below j are shifted down, the others not yet -/
def Down (ds Lj : List Int) (m k j : Nat) : Prop :=
  Lj.length = m ∧ Wf Lj ∧ Lj.drop j = ds.drop j ∧ ds.length = m ∧ ∀ i, i < j → Lj.getD i 0 = ds.getD i 0 / 2 ^ k + ds.getD (i + 1) 0 % 2 ^ k * 2 ^ (32 - k)

theorem Down.start {ds : List Int} {m k : Nat} (h : ds.length = m) (hw : Wf ds) : Down ds ds m k 0 := ⟨h, hw, rfl, h, fun i hi => absurd hi (by omega)⟩

theorem pow_split {k : Nat} (hk : k < 32) : (2 : Int) ^ k * 2 ^ (32 - k) = 4294967296 := by rw [← Int.pow_add, show k + (32 - k) = 32 by omega]; rfl

/-- one limb shifted down, with the bits of the next one -/
theorem limb_down {y z : Int} {k : Nat} (hk : k < 32) (y0 : 0 ≤ y) (y1 : y < 4294967296) :
    bits BinOp.or IntKind.u32 (y / 2 ^ k) (z * 2 ^ (32 - k) % 4294967296) = y / 2 ^ k + z % 2 ^ k * 2 ^ (32 - k) ∧ 0 ≤ y / 2 ^ k + z % 2 ^ k * 2 ^ (32 - k) ∧ y / 2 ^ k + z % 2 ^ k * 2 ^ (32 - k) < 4294967296 := by
  have hp : (0 : Int) < 2 ^ k := Int.pow_pos (by omega)
  have hpr : (0 : Int) < 2 ^ (32 - k) := Int.pow_pos (by omega)
  have hp2 := pow_split hk
  have a0 : 0 ≤ y / 2 ^ k := Int.ediv_nonneg y0 (by omega)
  have a1 : y / 2 ^ k < 2 ^ (32 - k) := Int.ediv_lt_of_lt_mul hp (by rw [Int.mul_comm, hp2]; exact y1)
  have hq : z * 2 ^ (32 - k) % 4294967296 = z % 2 ^ k * 2 ^ (32 - k) := by
    rw [← hp2, Int.mul_comm z, Int.mul_comm (2 ^ k), Int.mul_emod_mul_of_pos _ _ hpr, Int.mul_comm]
  have q0 : 0 ≤ z % 2 ^ k := Int.emod_nonneg _ (by omega)
  have q1 : z % 2 ^ k + 1 ≤ 2 ^ k := Int.emod_lt_of_pos _ hp
  have h2 := Int.mul_le_mul_of_nonneg_right q1 (Int.le_of_lt hpr)
  rw [hp2, Int.add_mul, Int.one_mul] at h2
  have h3 : 0 ≤ z % 2 ^ k * 2 ^ (32 - k) := Int.mul_nonneg q0 (Int.le_of_lt hpr)
  rw [hq]
  refine ⟨?_, by omega, by omega⟩
  by_cases h0 : k = 0
  · subst h0
    have e : z % 2 ^ 0 * 2 ^ (32 - 0) = 0 := by simp [Int.emod_one]
    rw [e]
    obtain ⟨a, ha⟩ := Int.eq_ofNat_of_zero_le a0
    rw [ha]
    have := bits_or_u32_nat a 0 (by simp at a1; omega) (by omega)
    simpa using this
  · exact or_low (by omega) a0 a1 q0 (by omega)

theorem Down.step {ds Lj : List Int} {m k j : Nat} (h : Down ds Lj m k j) (hj : j < m) (v : Int) (hv : v = ds.getD j 0 / 2 ^ k + ds.getD (j + 1) 0 % 2 ^ k * 2 ^ (32 - k)) (h0 : 0 ≤ v ∧ v < 4294967296) :
    Down ds (Lj.set j v) m k (j + 1) := by
  obtain ⟨h1, h2, h3, h4, h5⟩ := h
  refine ⟨by simp [h1], h2.set _ h0, ?_, h4, ?_⟩
  · have : (Lj.drop j).drop 1 = (ds.drop j).drop 1 := by rw [h3]
    rw [List.drop_drop, List.drop_drop] at this
    rw [← this, List.drop_set_of_lt (by omega)]
  · intro i hi
    rw [getD_set _ _ _ _ (by omega)]
    by_cases he : j = i
    · subst he; rw [if_pos rfl]; exact hv
    · rw [if_neg he]; exact h5 i (by omega)

/-- all limbs shifted down -/
def shr (k : Nat) : List Int → List Int
  | [] => []
  | z :: rest => (z / 2 ^ k + rest.getD 0 0 % 2 ^ k * 2 ^ (32 - k)) :: shr k rest

theorem shr_length (k : Nat) (ds : List Int) : (shr k ds).length = ds.length := by
  induction ds with
  | nil => rfl
  | cons z r ih => simp [shr, ih]
theorem shr_getD (k : Nat) (ds : List Int) (i : Nat) (h : i < ds.length) : (shr k ds).getD i 0 = ds.getD i 0 / 2 ^ k + ds.getD (i + 1) 0 % 2 ^ k * 2 ^ (32 - k) := by
  induction ds generalizing i with
  | nil => simp at h
  | cons z r ih =>
    cases i with
    | zero => simp [shr]
    | succ i =>
      have := ih i (by simpa using h)
      simpa [shr] using this

theorem num_shr {k : Nat} (hk : k < 32) (ds : List Int) : num (shr k ds) = num ds / 2 ^ k := by
  have hp : (0 : Int) < 2 ^ k := Int.pow_pos (by omega)
  have hp2 := pow_split hk
  induction ds with
  | nil => simp [shr, num]
  | cons z r ih =>
    simp only [shr, num, ih]
    have e1 : (z + 4294967296 * num r) / 2 ^ k = z / 2 ^ k + 2 ^ (32 - k) * num r := by
      rw [← hp2, Int.mul_assoc, Int.add_mul_ediv_left _ _ (by omega)]
    have e2 : num r % 2 ^ k = r.getD 0 0 % 2 ^ k := by
      cases r with
      | nil => simp [num]
      | cons h t =>
        simp only [num, List.getD_cons_zero]
        rw [← hp2, Int.mul_assoc, Int.add_mul_emod_self_left]
    have e3 := Int.mul_ediv_add_emod (num r) (2 ^ k)
    rw [e1, ← e2]
    have e4 : 2 ^ (32 - k) * num r = 4294967296 * (num r / 2 ^ k) + num r % 2 ^ k * 2 ^ (32 - k) := by
      have : 2 ^ (32 - k) * num r = 2 ^ (32 - k) * (2 ^ k * (num r / 2 ^ k) + num r % 2 ^ k) := by rw [e3]
      rw [this, Int.mul_add, ← Int.mul_assoc, Int.mul_comm (2 ^ (32 - k)) (2 ^ k), hp2, Int.mul_comm (2 ^ (32 - k)) (num r % 2 ^ k)]
    rw [e4]
    omega

theorem Down.done {ds Lj : List Int} {m k : Nat} (hk : k < 32) (h : Down ds Lj m k m) : num Lj = num ds / 2 ^ k := by
  obtain ⟨h1, _, _, h4, h5⟩ := h
  have : Lj = shr k ds := by
    apply List.ext_getElem (by rw [h1, shr_length, h4])
    intro i hi hi2
    rw [← getD_at hi, ← getD_at hi2, h5 i (by omega), shr_getD k ds i (by omega)]
  rw [this, num_shr hk]

set_option maxRecDepth 100000 in
set_option maxHeartbeats 1000000 in
theorem shiftDown_raw (zs : List Int) (s k : Nat) (ao : Option Addr) (n ca : Nat) (w : World) (ha : Sl w ao n ca zs) (hk : k < 32) (hn : n ≤ 1000000000) (hs : s < n) :
    Calls Tryz.prog 200 #[.slice ao n ca, .int .i64 ((s * 32 + k : Nat) : Int)] w fun e w' => ∃ ao' l cap, e = .returned (.slice ao' l cap) ∧ Sl w' ao' l cap (limbs (num (zs.drop s) / 2 ^ k).toNat) ∧ Below w.heap.size w w' := by
  have hd : ((s * 32 + k : Nat) : Int) / 32 = (s : Int) := by omega
  have hr : ((s * 32 + k : Nat) : Int) % 32 = (k : Int) := by omega
  obtain ⟨x, hx⟩ : ∃ x : Int, ((s * 32 + k : Nat) : Int) = x := ⟨_, rfl⟩
  rw [hx] at hd hr ⊢
  have hx0 : 0 ≤ x := by omega
  have hx1 : x ≤ 100000000000 := by omega
  have HX := Lib.hid hx; clear hx
  have hcap := ha.cap
  have hsd : ∀ ao', (∀ b off, ao = some ⟨b, off, none⟩ → ao' = some ⟨b, off + s, none⟩) → Sl w ao' (n - s) (ca - s) (zs.drop s) := fun ao' h =>
    ⟨by rw [List.length_drop, ha.len], by omega, by omega, ha.wf.drop s, fun h0 => by
      obtain ⟨b, off, e, hc⟩ := ha.cells (by rw [ha.len]; omega)
      refine ⟨b, off + s, h b off e, fun j hj => ?_⟩
      rw [List.length_drop, ha.len] at hj
      have := hc (s + j) (by rw [ha.len]; omega)
      rw [show off + s + j = off + (s + j) by omega, this]
      simp [List.getD, List.getElem?_drop]⟩
  obtain ⟨bb, ob, rfl, hcb⟩ := ha.cells (by rw [ha.len]; omega)
  have hs1 := hsd (some ⟨bb, ob + s, none⟩) (fun b off e => by cases e; rfl)
  clear hsd hcb
  go_enter Tryz.func200, Tryz.ntmps200
  go_wp2_with fail
  refine (clone_any _ _ _ _ _ hs1).mono ?_
  rintro e w1 ⟨rfl, hb1, hw1⟩
  have hsa := ha.cells.stay_below hw1 (Nat.le_refl _)
  generalize hg : w.heap.size = g at *
  have HG := Lib.hid hg; clear hg
  have hal := ha.len
  have HAL := Lib.hid hal; clear hal
  have hwz := ha.wf
  have hm0 : 0 < n - s := by omega
  have hmn : n - s ≤ n := by omega
  have hms : (((n - s : Nat) : Int)) = (n : Int) - s := by omega
  have HMS := Lib.hid hms; clear hms
  generalize hm : n - s = m at *
  have HM := Lib.hid hm; clear hm
  go_wp2
  go_loopw [8, 23] (fun _ i wr => ∃ (j : Nat) (Lj : List Int), j ≤ m ∧ i = .int .i64 j ∧ Down (zs.drop s) Lj m k j ∧ Blk wr g Lj ∧ Only g w1 wr)
    (fun _ i _ => m - (intOf i).toNat)
  case atStart => exact ⟨0, _, Nat.zero_le _, rfl, Down.start (by rw [List.length_drop, HAL.out, HM.out]) (hwz.drop s), hb1, Only.refl g w1⟩
  case round =>
    obtain ⟨j, Lj, hj, rfl, hU, hbk, ho⟩ := hrel
    have hl := hU.1
    have HU := Lib.hid hU; clear hU
    by_cases hlt : j < m
    · have c2 := hbk.cell j (by omega)
      have c3 := hbk.frozen j
      obtain ⟨y, hy⟩ : ∃ y, Lj.getD j 0 = y := ⟨_, rfl⟩
      rw [hy] at c2
      have HY := Lib.hid hy; clear hy
      have hyr := (HU.out.2.1.getD j)
      rw [HY.out] at hyr
      obtain ⟨y0, y1⟩ := hyr
      have HL := Lib.hid hl; clear hl
      by_cases hnx : s + j + 1 < n
      · obtain ⟨b2, o2, e2, hcb⟩ := hsa _ ho (by rw [HAL.out]; omega)
        cases e2
        have c1 := hcb (s + j + 1) (by rw [HAL.out]; omega)
        clear hcb
        obtain ⟨z, hz⟩ : ∃ z, zs.getD (s + j + 1) 0 = z := ⟨_, rfl⟩
        rw [hz] at c1
        have hzr := hwz.getD (s + j + 1)
        rw [hz] at hzr
        have HZ := Lib.hid hz; clear hz
        obtain ⟨z0, z1⟩ := hzr
        go_wp2
        have hb2 := hbk.set j (y / 2 ^ k)
        have ho2 := ho.setCell j (.int .u32 (y / 2 ^ k))
        generalize wr.setCell ⟨g, j, none⟩ (.int .u32 (y / 2 ^ k)) = W2 at *
        obtain ⟨b3, o3, e3, hcb⟩ := hsa _ ho2 (by rw [HAL.out]; omega)
        cases e3
        have c5 := hcb (s + j + 1) (by rw [HAL.out]; omega)
        rw [HZ.out] at c5
        clear hcb c1 c2 c3 hbk ho
        have c6 := hb2.cell j (by simp; rw [HL.out]; omega)
        have hgd : (Lj.set j (y / 2 ^ k)).getD j 0 = y / 2 ^ k := by rw [getD_set _ _ _ _ (by rw [HL.out]; omega), if_pos rfl]
        rw [hgd] at c6
        clear hgd
        have c7 := hb2.frozen j
        go_region
        go_wp2
        go_roundw
        case rel =>
          obtain ⟨t1, t2, t3⟩ := limb_down (z := z) hk y0 y1
          have hyd : (zs.drop s).getD j 0 = y := by rw [← HY.out, getD_of_drop HU.out.2.2.1]
          have hzd : (zs.drop s).getD (j + 1) 0 = z := by rw [← HZ.out]; simp [List.getD, List.getElem?_drop, Nat.add_assoc]
          have st := HU.out.step hlt _ (by rw [hyd, hzd]) ⟨t2, t3⟩
          have hbn := (hb2.set j (bits BinOp.or IntKind.u32 (y / 2 ^ k) (z * 2 ^ (32 - k) % 4294967296))).drew
          rw [t1] at hbn ⊢
          rw [List.set_set] at hbn
          exact ⟨j + 1, _, by omega, by go_num, st, hbn, (ho2.setCell _ _).drew⟩
        case measure => simp [intOf] <;> omega
      · go_wp2
        go_roundw
        case rel =>
          have hyd : (zs.drop s).getD j 0 = y := by rw [← HY.out, getD_of_drop HU.out.2.2.1]
          have hzd : (zs.drop s).getD (j + 1) 0 = 0 := by
            have := HAL.out
            simp only [List.getD, List.getElem?_drop]
            rw [List.getElem?_eq_none (by omega)]; rfl
          have hp : (0 : Int) < 2 ^ k := Int.pow_pos (by omega)
          have a0 : 0 ≤ y / 2 ^ k := Int.ediv_nonneg y0 (by omega)
          have a1 : y / 2 ^ k ≤ y := Int.ediv_le_self _ y0
          have st := HU.out.step hlt (y / 2 ^ k) (by rw [hyd, hzd]; simp) ⟨a0, by omega⟩
          exact ⟨j + 1, _, by omega, by go_num, st, hbk.set _ _, ho.setCell _ _⟩
        case measure => simp [intOf] <;> omega
    · obtain rfl : j = m := by omega
      have HL := Lib.hid hl; clear hl
      go_wp2_with fail
      refine (trim_sl _ _ _ Lj wr (hbk.sl HU.out.2.1 HL.out (by omega) (Nat.le_refl _))).mono ?_
      rintro e w4 ⟨i, rfl, hs4, rfl⟩
      go_wp2
      go_ret
      refine ⟨_, i, _, rfl, ?_, by rw [HG.out]; exact hw1.trans (ho.below (Nat.le_refl _))⟩
      rw [HU.out.done hk] at hs4
      exact hs4

theorem pow_le' {a b : Nat} (h : a ≤ b) : 4294967296 ^ a ≤ 4294967296 ^ b := Nat.pow_le_pow_right (by omega) h

theorem num_drop_div {zs : List Int} (h : Wf zs) (s : Nat) (hs : s ≤ zs.length) : num (zs.drop s) = num zs / 4294967296 ^ s := by
  have e := num_append (zs.take s) (zs.drop s)
  rw [List.take_append_drop, List.length_take, Nat.min_eq_left hs] at e
  have h1 := num_lt (h.take s)
  rw [List.length_take, Nat.min_eq_left hs] at h1
  have h0 := num_nonneg (h.take s)
  rw [e, Int.add_mul_ediv_left _ _ (Int.ne_of_gt (pow_pos' s)), Int.ediv_eq_zero_of_lt h0 h1]
  omega

theorem pow32 (s k : Nat) : (2 : Nat) ^ (s * 32 + k) = 4294967296 ^ s * 2 ^ k := by
  rw [Nat.pow_add, Nat.mul_comm s 32, Nat.pow_mul]

/-- a number times a power of two -/
theorem shiftUp_any (a e : Nat) (ao : Option Addr) (n ca : Nat) (w : World) (ha : Sl w ao n ca (limbs a)) (hn : n ≤ 1000000000) (he : e ≤ 30000000000) :
    Calls Tryz.prog 199 #[.slice ao n ca, .int .i64 (e : Int)] w fun r w' => ∃ ao' l cap, r = .returned (.slice ao' l cap) ∧ Sl w' ao' l cap (limbs (a * 2 ^ e)) ∧ Below w.heap.size w w' := by
  have h := shiftUp_raw (limbs a) (e / 32) (e % 32) ao n ca w ha (by omega) hn (by omega)
  have e1 : e / 32 * 32 + e % 32 = e := by omega
  have e2 : (num (limbs a) * 4294967296 ^ (e / 32) * 2 ^ (e % 32)).toNat = a * 2 ^ e := by
    rw [num_limbs]
    have : (a : Int) * 4294967296 ^ (e / 32) * 2 ^ (e % 32) = ((a * 2 ^ e : Nat) : Int) := by
      rw [Int.natCast_mul]
      conv => rhs; rw [← e1, pow32, Int.natCast_mul, Int.natCast_pow, Int.natCast_pow]
      rw [Int.mul_assoc]; rfl
    rw [this, Int.toNat_natCast]
  rw [e1, e2] at h
  exact h

set_option maxRecDepth 100000 in
set_option maxHeartbeats 1000000 in
theorem shiftDown_far (x : Int) (ao : Option Addr) (n ca : Nat) (w : World) (hx0 : 0 ≤ x) (hx1 : x ≤ 100000000000) (hn : (n : Int) ≤ x / 32) :
    Calls Tryz.prog 200 #[.slice ao n ca, .int .i64 x] w fun r w' => r = .returned (.slice none 0 0) ∧ w = w' := by
  go_enter Tryz.func200, Tryz.ntmps200
  go_wp2
  go_ret
  exact ⟨rfl, rfl⟩

/-- a number divided by a power of two -/
theorem shiftDown_any (a e : Nat) (ao : Option Addr) (n ca : Nat) (w : World) (ha : Sl w ao n ca (limbs a)) (hn : n ≤ 1000000000) (he : e ≤ 100000000000) :
    Calls Tryz.prog 200 #[.slice ao n ca, .int .i64 (e : Int)] w fun r w' => ∃ ao' l cap, r = .returned (.slice ao' l cap) ∧ Sl w' ao' l cap (limbs (a / 2 ^ e)) ∧ Below w.heap.size w w' := by
  have e1 : e / 32 * 32 + e % 32 = e := by omega
  by_cases h : e / 32 < n
  · have h := shiftDown_raw (limbs a) (e / 32) (e % 32) ao n ca w ha (by omega) hn h
    have e2 : (num ((limbs a).drop (e / 32)) / 2 ^ (e % 32)).toNat = a / 2 ^ e := by
      rw [num_drop_div (Wf.limbs a) _ (by rw [ha.len]; omega), num_limbs]
      have : (a : Int) / 4294967296 ^ (e / 32) / 2 ^ (e % 32) = ((a / 2 ^ e : Nat) : Int) := by
        conv => rhs; rw [← e1, pow32, ← Nat.div_div_eq_div_mul, Int.natCast_ediv, Int.natCast_ediv, Int.natCast_pow, Int.natCast_pow]
        rfl
      rw [this, Int.toNat_natCast]
    rw [e1, e2] at h
    exact h
  · refine (shiftDown_far e ao n ca w (by omega) (by omega) (by omega)).mono fun r w' ⟨hr, hw⟩ => ⟨none, 0, 0, hr, ?_, ?_⟩
    · have h1 := (limbs_len_le a n).1 (by rw [ha.len]; exact Nat.le_refl _)
      have h2 : a < 2 ^ e := by
        have h3 : 4294967296 ^ n ≤ 2 ^ e := by
          rw [← e1, pow32]
          have := pow_le' (show n ≤ e / 32 by omega)
          exact Nat.le_trans this (Nat.le_mul_of_pos_right _ (Nat.pos_of_ne_zero (by simp)))
        omega
      rw [Nat.div_eq_of_lt h2, limbs_zero]
      exact Sl.nil w'
    · rw [← hw]; exact Below.refl _ _
end Go.Proofs.YtolghagbpnjpgaaGreatDoor

namespace Go.Proofs.YtolghagbpnjpgaaGreatDoor
open Go.RowKit

/-- from limb k on the quotient stands in Q, and r is left -/
def Quot (L Q : List Int) (k : Nat) (r b : Int) : Prop :=
  Q.length = L.length ∧ Wf Q ∧ 0 ≤ r ∧ r < b ∧ num (L.drop k) = num (Q.drop k) * b + r

theorem num_drop (zs : List Int) (j : Nat) (h : j < zs.length) : num (zs.drop j) = zs.getD j 0 + 4294967296 * num (zs.drop (j + 1)) := by
  rw [List.drop_eq_getElem_cons h, ← getD_at h]; rfl

theorem Quot.step {L Q : List Int} {j : Nat} {r b : Int} (h : Quot L Q (j + 1) r b) (hj : j < L.length) (hq : 0 ≤ (r * 4294967296 + L.getD j 0) / b ∧ (r * 4294967296 + L.getD j 0) / b < 4294967296) (hb : 0 < b) :
    Quot L (Q.set j ((r * 4294967296 + L.getD j 0) / b)) j ((r * 4294967296 + L.getD j 0) % b) b := by
  obtain ⟨h1, h2, h3, h4, h5⟩ := h
  refine ⟨by simpa using h1, h2.set _ hq, Int.emod_nonneg _ (by omega), Int.emod_lt_of_pos _ hb, ?_⟩
  rw [num_drop L j hj, num_drop (Q.set j _) j (by simpa [h1] using hj), h5, List.drop_set_of_lt (by omega)]
  have e : (Q.set j ((r * 4294967296 + L.getD j 0) / b)).getD j 0 = (r * 4294967296 + L.getD j 0) / b := by
    simp [List.getD, h1, hj]
  rw [e]
  have ed := Int.mul_ediv_add_emod (r * 4294967296 + L.getD j 0) b
  rw [Int.mul_comm] at ed
  rw [Int.add_mul, Int.mul_assoc, Int.mul_add]
  omega

set_option maxRecDepth 100000 in
set_option maxHeartbeats 1000000 in
theorem divLimb_any (a : Nat) (ao : Option Addr) (n ca : Nat) (b : Int) (w : World) (ha : Sl w ao n ca (limbs a)) (hb0 : 0 < b) (hb1 : b < 4294967296) :
    Calls Tryz.prog 219 #[.slice ao n ca, .int .u32 b] w fun e w' => ∃ qo qk qc ro rk rc, e = .returned (.tuple #[.slice qo qk qc, .slice ro rk rc]) ∧
      Sl w' qo qk qc (limbs (a / b.toNat)) ∧ Sl w' ro rk rc (limbs (a % b.toNat)) ∧ Below w.heap.size w w' := by
  have hn := ha.big
  go_enter Tryz.func219, Tryz.ntmps219
  go_wp2_with (refine wpList_make_u32 _ rfl _ _ rfl _ n rfl rfl rfl hn ?_)
  intro w1 hb1' hw1
  have hsa := ha.cells.stay_below hw1 (Nat.le_refl _)
  have hal := ha.len
  have HAL := Lib.hid hal; clear hal
  have hwa := ha.wf
  generalize hg : w.heap.size = g at *
  have HG := Lib.hid hg; clear hg
  go_wp2
  go_loopw [6, 7] (fun r i wr => ∃ (k : Nat) (rr : Int) (Q : List Int), k ≤ n ∧ i = .int .i64 ((k : Int) - 1) ∧ r = .int .u32 rr ∧ Quot (limbs a) Q k rr b ∧ Blk wr g Q ∧ Only g w1 wr)
    (fun _ i _ => (intOf i + 1).toNat)
  case atStart => exact ⟨n, 0, _, Nat.le_refl _, rfl, rfl, ⟨by simp [HAL.out], Wf.replicate _, by omega, hb0, by rw [List.drop_eq_nil_of_le (by rw [HAL.out]; exact Nat.le_refl _), List.drop_eq_nil_of_le (by simp)]; simp [num]⟩, hb1', Only.refl g w1⟩
  case round =>
    obtain ⟨k, rr, Q, hk, rfl, rfl, hQ, hbk, ho⟩ := hrel
    have HQ := Lib.hid hQ; clear hQ
    by_cases hlt : 0 < k
    · obtain ⟨j, rfl⟩ : ∃ j, k = j + 1 := ⟨k - 1, by omega⟩
      obtain ⟨bb, ob, rfl, hcb⟩ := hsa _ ho (by rw [HAL.out]; omega)
      have c1 := hcb j (by rw [HAL.out]; omega)
      clear hcb
      have hxr := hwa.getD j
      obtain ⟨x, hx⟩ : ∃ x, (limbs a).getD j 0 = x := ⟨_, rfl⟩
      rw [hx] at c1 hxr
      have HX := Lib.hid hx; clear hx
      obtain ⟨x0, x1⟩ := hxr
      have r0 := HQ.out.2.2.1
      have r1 := HQ.out.2.2.2.1
      have c2 := hbk.cell j (by rw [HQ.out.1, HAL.out]; omega)
      have c3 := hbk.frozen j
      have ej : ((j + 1 : Nat) : Int) - 1 = (j : Int) := by omega
      rw [ej]
      clear ej
      go_wp2_with fail
      refine (div32_any rr x b wr r0 r1 hb1 x0 x1).mono ?_
      rintro e w2 ⟨rfl, q, rfl⟩
      go_wp2
      go_roundw
      case rel =>
        have hq0 : 0 ≤ (rr * 4294967296 + x) / b := Int.ediv_nonneg (by omega) (by omega)
        have hq1 : (rr * 4294967296 + x) / b < 4294967296 := by
          apply Int.ediv_lt_of_lt_mul hb0
          have : (rr + 1) * 4294967296 ≤ b * 4294967296 := Int.mul_le_mul_of_nonneg_right (by omega) (by omega)
          rw [Int.mul_comm 4294967296 b]
          omega
        have st := HQ.out.step (by rw [HAL.out]; omega) (by rw [HX.out]; exact ⟨hq0, hq1⟩) hb0
        rw [HX.out] at st
        exact ⟨j, _, _, by omega, by go_num, rfl, st, (hbk.drewN q).set _ _, (ho.drewN q).setCell _ _⟩
      case measure => simp [intOf] <;> omega
    · obtain rfl : k = 0 := by omega
      have hlen : Q.length = n := by rw [HQ.out.1, HAL.out]
      go_wp2_with fail
      refine (trim_sl _ _ _ Q wr (hbk.sl HQ.out.2.1 hlen hn (Nat.le_refl _))).mono ?_
      rintro e w4 ⟨i, rfl, hs, rfl⟩
      have HLn := Lib.hid hlen; clear hlen
      go_wp2_with fail
      have hbr : Blk (wr.alloc (.cells #[.int .u32 rr] 96)) wr.heap.size [rr] := heap_alloc_new wr _
      refine (trim_sl _ _ _ [rr] _ (hbr.sl (n := 1) (Wf.cons ⟨HQ.out.2.2.1, by have := HQ.out.2.2.2.1; omega⟩ Wf.nil) rfl (by omega) (Nat.le_refl _))).mono ?_
      rintro e w5 ⟨i2, rfl, hs2, rfl⟩
      have hbw := (Below.refl wr.heap.size wr).alloc (Nat.le_refl _) (.cells #[.int .u32 rr] 96)
      go_wp2
      go_ret2
      obtain ⟨_, hwf, r0, r1, he⟩ := HQ.out
      rw [List.drop_zero, List.drop_zero, num_limbs] at he
      have hq0 := num_nonneg hwf
      have hdv : num Q = (a : Int) / b := by
        rw [he, Int.add_comm, Int.add_mul_ediv_right _ _ (by omega), Int.ediv_eq_zero_of_lt r0 r1]; omega
      have hmd : rr = (a : Int) % b := by
        rw [he, Int.add_comm, Int.add_mul_emod_self_right, Int.emod_eq_of_lt r0 r1]
      have hbn : ((b.toNat : Nat) : Int) = b := Int.toNat_of_nonneg (by omega)
      refine ⟨_, i, _, _, i2, _, rfl, ?_, ?_, ?_⟩
      · have := hs.below hbw
        rw [hdv, ← hbn, ← Int.natCast_ediv, Int.toNat_natCast] at this
        exact this
      · have e2 : num [rr] = rr := by simp [num]
        have e3 : (num [rr]).toNat = a % b.toNat := by rw [e2, hmd, ← hbn, ← Int.natCast_emod, Int.toNat_natCast, hbn]
        rw [e3] at hs2
        exact hs2
      · rw [HG.out]
        have hb2 := hw1.trans (ho.below (Nat.le_refl g))
        exact hb2.trans (hbw.mono (Nat.le_of_lt hbk.lt))
end Go.Proofs.YtolghagbpnjpgaaGreatDoor

namespace Go.Proofs.YtolghagbpnjpgaaGreatDoor
open Go.RowKit

set_option maxRecDepth 100000 in
set_option maxHeartbeats 1000000 in
theorem divide_less (a b : Nat) (ao bo : Option Addr) (n m ca cb : Nat) (w : World) (ha : Sl w ao n ca (limbs a)) (hb : Sl w bo m cb (limbs b)) (hab : a < b) :
    Calls Tryz.prog 203 #[.slice ao n ca, .slice bo m cb] w fun e w' => ∃ qo qk qc ro rk rc, e = .returned (.tuple #[.slice qo qk qc, .slice ro rk rc]) ∧
      Sl w' qo qk qc (limbs (a / b)) ∧ Sl w' ro rk rc (limbs (a % b)) ∧ Below w.heap.size w w' := by
  have hs : decide (sgn3 (a : Int) b < 0) = true := by simp [sgn3]; omega
  have H := Lib.hid hab; clear hab
  go_enter Tryz.func203, Tryz.ntmps203
  go_wp2_with fail
  refine (compare_any _ _ _ _ _ _ _ _ _ ha hb).mono ?_
  rintro e w1 ⟨rfl, q, rfl⟩
  go_wp2_with fail
  refine (clone_any _ _ _ _ _ (ha.drewN q)).mono ?_
  rintro e w2 ⟨rfl, hb2, hw2⟩
  go_wp2
  go_ret2
  refine ⟨_, _, _, _, _, _, rfl, ?_, ?_, ?_⟩
  · rw [Nat.div_eq_of_lt H.out, limbs_zero]; exact Sl.nil _
  · rw [Nat.mod_eq_of_lt H.out]
    exact hb2.sl (Wf.limbs a) ha.len ha.big (Nat.le_refl _)
  · exact (below_drewN (Below.refl _ w) q).trans hw2

set_option maxRecDepth 100000 in
set_option maxHeartbeats 1000000 in
theorem divide_limb (a b : Nat) (ao bo : Option Addr) (n ca cb : Nat) (w : World) (ha : Sl w ao n ca (limbs a)) (hb : Sl w bo 1 cb (limbs b)) (hab : b ≤ a) :
    Calls Tryz.prog 203 #[.slice ao n ca, .slice bo 1 cb] w fun e w' => ∃ qo qk qc ro rk rc, e = .returned (.tuple #[.slice qo qk qc, .slice ro rk rc]) ∧
      Sl w' qo qk qc (limbs (a / b)) ∧ Sl w' ro rk rc (limbs (a % b)) ∧ Below w.heap.size w w' := by
  have hs : decide (sgn3 (a : Int) b < 0) = false := by simp [sgn3]; omega
  have H := Lib.hid hab; clear hab
  obtain ⟨bb, ob, rfl, hc⟩ := hb.cells (by rw [hb.len]; omega)
  have c1 := hc 0 (by rw [hb.len]; omega)
  clear hc
  have hbl := hb.len
  have hb1 := (limbs_len_le b 1).1 (by omega)
  have hbn : b ≠ 0 := by rintro rfl; rw [limbs_zero] at hbl; cases hbl
  have hb0 : (limbs b).getD 0 0 = (b : Int) := by
    rw [limbs_pos hbn]; simp [List.getD]; omega
  rw [hb0, Nat.add_zero] at c1
  have HBL := Lib.hid hbl; clear hbl hb0
  go_enter Tryz.func203, Tryz.ntmps203
  go_wp2_with fail
  refine (compare_any _ _ _ _ _ _ _ _ _ ha hb).mono ?_
  rintro e w1 ⟨rfl, q, rfl⟩
  go_wp2_with fail
  refine (divLimb_any _ _ _ _ (b : Int) _ (ha.drewN q) (by omega) (by omega)).mono ?_
  rintro e w2 ⟨qo, qk, qc, ro, rk, rc, rfl, hq, hr, hw2⟩
  go_wp2
  go_ret2
  rw [Int.toNat_natCast] at hq hr
  exact ⟨_, _, _, _, _, _, rfl, hq, hr, (below_drewN (Below.refl _ w) q).trans hw2⟩
end Go.Proofs.YtolghagbpnjpgaaGreatDoor
