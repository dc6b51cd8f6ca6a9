import Derived.Test.YtapcecjbmcoliaaGreatDoorACauU9
import Derived.BigRegion
import Derived.RegionTactic
import Derived.ChangeAlike
namespace Go.Proofs.YtapcecjbmcoliaaGreatDoor
open Go.RowKit

/-- the limbs below j are shifted down, the others not yet -/
def Down (ds Lj : List Int) (m k j : Nat) : Prop :=
  Lj.length = m ∧ Wf Lj ∧ Lj.drop j = ds.drop j ∧ ds.length = m ∧ ∀ i, i < j → Lj.getD i 0 = ds.getD i 0 / 2 ^ k + ds.getD (i + 1) 0 % 2 ^ k * 2 ^ (32 - k)

theorem Down.start {ds : List Int} {m k : Nat} (h : ds.length = m) (hw : Wf ds) : Down ds ds m k 0 := ⟨h, hw, rfl, h, fun i hi => absurd hi (by omega)⟩

theorem pow_split {k : Nat} (hk : k < 32) : (2 : Int) ^ k * 2 ^ (32 - k) = 4294967296 := by rw [← Int.pow_add, show k + (32 - k) = 32 by omega]; rfl

/-- one limb shifted down, with the bits of the next one -/
theorem limb_down {y z : Int} {k : Nat} (hk : k < 32) (y0 : 0 ≤ y) (y1 : y < 4294967296) :
    bits BinOp.or IntKind.u32 (y / 2 ^ k) (z * 2 ^ (32 - k) % 4294967296) = y / 2 ^ k + z % 2 ^ k * 2 ^ (32 - k) ∧ 0 ≤ y / 2 ^ k + z % 2 ^ k * 2 ^ (32 - k) ∧ y / 2 ^ k + z % 2 ^ k * 2 ^ (32 - k) < 4294967296 := by
  have hp : (0 : Int) < 2 ^ k := Int.pow_pos (by omega)
  have hpr : (0 : Int) < 2 ^ (32 - k) := Int.pow_pos (by omega)
  have hp2 := pow_split hk
  have a0 : 0 ≤ y / 2 ^ k := Int.ediv_nonneg y0 (by omega)
  have a1 : y / 2 ^ k < 2 ^ (32 - k) := Int.ediv_lt_of_lt_mul hp (by rw [Int.mul_comm, hp2]; exact y1)
  have hq : z * 2 ^ (32 - k) % 4294967296 = z % 2 ^ k * 2 ^ (32 - k) := by
    rw [← hp2, Int.mul_comm z, Int.mul_comm (2 ^ k), Int.mul_emod_mul_of_pos _ _ hpr, Int.mul_comm]
  have q0 : 0 ≤ z % 2 ^ k := Int.emod_nonneg _ (by omega)
  have q1 : z % 2 ^ k + 1 ≤ 2 ^ k := Int.emod_lt_of_pos _ hp
  have h2 := Int.mul_le_mul_of_nonneg_right q1 (Int.le_of_lt hpr)
  rw [hp2, Int.add_mul, Int.one_mul] at h2
  have h3 : 0 ≤ z % 2 ^ k * 2 ^ (32 - k) := Int.mul_nonneg q0 (Int.le_of_lt hpr)
  rw [hq]
  refine ⟨?_, by omega, by omega⟩
  by_cases h0 : k = 0
  · subst h0
    have e : z % 2 ^ 0 * 2 ^ (32 - 0) = 0 := by simp [Int.emod_one]
    rw [e]
    obtain ⟨a, ha⟩ := Int.eq_ofNat_of_zero_le a0
    rw [ha]
    have := bits_or_u32_nat a 0 (by simp at a1; omega) (by omega)
    simpa using this
  · exact or_low (by omega) a0 a1 q0 (by omega)

theorem Down.step {ds Lj : List Int} {m k j : Nat} (h : Down ds Lj m k j) (hj : j < m) (v : Int) (hv : v = ds.getD j 0 / 2 ^ k + ds.getD (j + 1) 0 % 2 ^ k * 2 ^ (32 - k)) (h0 : 0 ≤ v ∧ v < 4294967296) :
    Down ds (Lj.set j v) m k (j + 1) := by
  obtain ⟨h1, h2, h3, h4, h5⟩ := h
  refine ⟨by simp [h1], h2.set _ h0, ?_, h4, ?_⟩
  · have : (Lj.drop j).drop 1 = (ds.drop j).drop 1 := by rw [h3]
    rw [List.drop_drop, List.drop_drop] at this
    rw [← this, List.drop_set_of_lt (by omega)]
  · intro i hi
    rw [getD_set _ _ _ _ (by omega)]
    by_cases he : j = i
    · subst he; rw [if_pos rfl]; exact hv
    · rw [if_neg he]; exact h5 i (by omega)

/-- all limbs shifted down -/
def shr (k : Nat) : List Int → List Int
  | [] => []
  | z :: rest => (z / 2 ^ k + rest.getD 0 0 % 2 ^ k * 2 ^ (32 - k)) :: shr k rest

theorem shr_length (k : Nat) (ds : List Int) : (shr k ds).length = ds.length := by
  induction ds with
  | nil => rfl
  | cons z r ih => simp [shr, ih]
theorem shr_getD (k : Nat) (ds : List Int) (i : Nat) (h : i < ds.length) : (shr k ds).getD i 0 = ds.getD i 0 / 2 ^ k + ds.getD (i + 1) 0 % 2 ^ k * 2 ^ (32 - k) := by
  induction ds generalizing i with
  | nil => simp at h
  | cons z r ih =>
    cases i with
    | zero => simp [shr]
    | succ i =>
      have := ih i (by simpa using h)
      simpa [shr] using this

theorem num_shr {k : Nat} (hk : k < 32) (ds : List Int) : num (shr k ds) = num ds / 2 ^ k := by
  have hp : (0 : Int) < 2 ^ k := Int.pow_pos (by omega)
  have hp2 := pow_split hk
  induction ds with
  | nil => simp [shr, num]
  | cons z r ih =>
    simp only [shr, num, ih]
    have e1 : (z + 4294967296 * num r) / 2 ^ k = z / 2 ^ k + 2 ^ (32 - k) * num r := by
      rw [← hp2, Int.mul_assoc, Int.add_mul_ediv_left _ _ (by omega)]
    have e2 : num r % 2 ^ k = r.getD 0 0 % 2 ^ k := by
      cases r with
      | nil => simp [num]
      | cons h t =>
        simp only [num, List.getD_cons_zero]
        rw [← hp2, Int.mul_assoc, Int.add_mul_emod_self_left]
    have e3 := Int.mul_ediv_add_emod (num r) (2 ^ k)
    rw [e1, ← e2]
    have e4 : 2 ^ (32 - k) * num r = 4294967296 * (num r / 2 ^ k) + num r % 2 ^ k * 2 ^ (32 - k) := by
      have : 2 ^ (32 - k) * num r = 2 ^ (32 - k) * (2 ^ k * (num r / 2 ^ k) + num r % 2 ^ k) := by rw [e3]
      rw [this, Int.mul_add, ← Int.mul_assoc, Int.mul_comm (2 ^ (32 - k)) (2 ^ k), hp2, Int.mul_comm (2 ^ (32 - k)) (num r % 2 ^ k)]
    rw [e4]
    omega

theorem Down.done {ds Lj : List Int} {m k : Nat} (hk : k < 32) (h : Down ds Lj m k m) : num Lj = num ds / 2 ^ k := by
  obtain ⟨h1, _, _, h4, h5⟩ := h
  have : Lj = shr k ds := by
    apply List.ext_getElem (by rw [h1, shr_length, h4])
    intro i hi hi2
    rw [← getD_at hi, ← getD_at hi2, h5 i (by omega), shr_getD k ds i (by omega)]
  rw [this, num_shr hk]

set_option maxRecDepth 100000 in
set_option maxHeartbeats 1000000 in
theorem shiftDown_raw (zs : List Int) (s k : Nat) (ao : Option Addr) (n ca : Nat) (w : World) (ha : Sl w ao n ca zs) (hk : k < 32) (hn : n ≤ 1000000000) (hs : s < n) :
    Calls Tryz.prog 75 #[.slice ao n ca, .int .i64 ((s * 32 + k : Nat) : Int)] w fun e w' => ∃ ao' l cap, e = .returned (.slice ao' l cap) ∧ Sl w' ao' l cap (limbs (num (zs.drop s) / 2 ^ k).toNat) ∧ Below w.heap.size w w' := by
  have hd : ((s * 32 + k : Nat) : Int) / 32 = (s : Int) := by omega
  have hr : ((s * 32 + k : Nat) : Int) % 32 = (k : Int) := by omega
  obtain ⟨x, hx⟩ : ∃ x : Int, ((s * 32 + k : Nat) : Int) = x := ⟨_, rfl⟩
  rw [hx] at hd hr ⊢
  have hx0 : 0 ≤ x := by omega
  have hx1 : x ≤ 100000000000 := by omega
  have HX := Lib.hid hx; clear hx
  have hcap := ha.cap
  have hsd : ∀ ao', (∀ b off, ao = some ⟨b, off, none⟩ → ao' = some ⟨b, off + s, none⟩) → Sl w ao' (n - s) (ca - s) (zs.drop s) := fun ao' h =>
    ⟨by rw [List.length_drop, ha.len], by omega, by omega, ha.wf.drop s, fun h0 => by
      obtain ⟨b, off, e, hc⟩ := ha.cells (by rw [ha.len]; omega)
      refine ⟨b, off + s, h b off e, fun j hj => ?_⟩
      rw [List.length_drop, ha.len] at hj
      have := hc (s + j) (by rw [ha.len]; omega)
      rw [show off + s + j = off + (s + j) by omega, this]
      simp [List.getD, List.getElem?_drop]⟩
  obtain ⟨bb, ob, rfl, hcb⟩ := ha.cells (by rw [ha.len]; omega)
  have hs1 := hsd (some ⟨bb, ob + s, none⟩) (fun b off e => by cases e; rfl)
  clear hsd hcb
  go_enter Tryz.func75, Tryz.ntmps75
  go_wp2_with fail
  refine (clone_any _ _ _ _ _ hs1).mono ?_
  rintro e w1 ⟨rfl, hb1, hw1⟩
  have hsa := ha.cells.stay_below hw1 (Nat.le_refl _)
  generalize hg : w.heap.size = g at *
  have HG := Lib.hid hg; clear hg
  have hal := ha.len
  have HAL := Lib.hid hal; clear hal
  have hwz := ha.wf
  have hm0 : 0 < n - s := by omega
  have hmn : n - s ≤ n := by omega
  have hms : (((n - s : Nat) : Int)) = (n : Int) - s := by omega
  have HMS := Lib.hid hms; clear hms
  generalize hm : n - s = m at *
  have HM := Lib.hid hm; clear hm
  go_wp2
  go_loopw [8, 23] (fun _ i wr => ∃ (j : Nat) (Lj : List Int), j ≤ m ∧ i = .int .i64 j ∧ Down (zs.drop s) Lj m k j ∧ Blk wr g Lj ∧ Only g w1 wr)
    (fun _ i _ => m - (intOf i).toNat)
  case atStart => exact ⟨0, _, Nat.zero_le _, rfl, Down.start (by rw [List.length_drop, HAL.out, HM.out]) (hwz.drop s), hb1, Only.refl g w1⟩
  case round =>
    obtain ⟨j, Lj, hj, rfl, hU, hbk, ho⟩ := hrel
    have hl := hU.1
    have HU := Lib.hid hU; clear hU
    by_cases hlt : j < m
    · have c2 := hbk.cell j (by omega)
      have c3 := hbk.frozen j
      obtain ⟨y, hy⟩ : ∃ y, Lj.getD j 0 = y := ⟨_, rfl⟩
      rw [hy] at c2
      have HY := Lib.hid hy; clear hy
      have hyr := (HU.out.2.1.getD j)
      rw [HY.out] at hyr
      obtain ⟨y0, y1⟩ := hyr
      have HL := Lib.hid hl; clear hl
      by_cases hnx : s + j + 1 < n
      · obtain ⟨b2, o2, e2, hcb⟩ := hsa _ ho (by rw [HAL.out]; omega)
        cases e2
        have c1 := hcb (s + j + 1) (by rw [HAL.out]; omega)
        clear hcb
        obtain ⟨z, hz⟩ : ∃ z, zs.getD (s + j + 1) 0 = z := ⟨_, rfl⟩
        rw [hz] at c1
        have hzr := hwz.getD (s + j + 1)
        rw [hz] at hzr
        have HZ := Lib.hid hz; clear hz
        obtain ⟨z0, z1⟩ := hzr
        go_wp2
        have hb2 := hbk.set j (y / 2 ^ k)
        have ho2 := ho.setCell j (.int .u32 (y / 2 ^ k))
        generalize wr.setCell ⟨g, j, none⟩ (.int .u32 (y / 2 ^ k)) = W2 at *
        obtain ⟨b3, o3, e3, hcb⟩ := hsa _ ho2 (by rw [HAL.out]; omega)
        cases e3
        have c5 := hcb (s + j + 1) (by rw [HAL.out]; omega)
        rw [HZ.out] at c5
        clear hcb c1 c2 c3 hbk ho
        have c6 := hb2.cell j (by simp; rw [HL.out]; omega)
        have hgd : (Lj.set j (y / 2 ^ k)).getD j 0 = y / 2 ^ k := by rw [getD_set _ _ _ _ (by rw [HL.out]; omega), if_pos rfl]
        rw [hgd] at c6
        clear hgd
        have c7 := hb2.frozen j
        go_region
        go_wp2
        go_roundw
        case rel =>
          obtain ⟨t1, t2, t3⟩ := limb_down (z := z) hk y0 y1
          have hyd : (zs.drop s).getD j 0 = y := by rw [← HY.out, getD_of_drop HU.out.2.2.1]
          have hzd : (zs.drop s).getD (j + 1) 0 = z := by rw [← HZ.out]; simp [List.getD, List.getElem?_drop, Nat.add_assoc]
          have st := HU.out.step hlt _ (by rw [hyd, hzd]) ⟨t2, t3⟩
          have hbn := (hb2.set j (bits BinOp.or IntKind.u32 (y / 2 ^ k) (z * 2 ^ (32 - k) % 4294967296))).drew
          rw [t1] at hbn ⊢
          rw [List.set_set] at hbn
          exact ⟨j + 1, _, by omega, by go_num, st, hbn, (ho2.setCell _ _).drew⟩
        case measure => simp [intOf] <;> omega
      · go_wp2
        go_roundw
        case rel =>
          have hyd : (zs.drop s).getD j 0 = y := by rw [← HY.out, getD_of_drop HU.out.2.2.1]
          have hzd : (zs.drop s).getD (j + 1) 0 = 0 := by
            have := HAL.out
            simp only [List.getD, List.getElem?_drop]
            rw [List.getElem?_eq_none (by omega)]; rfl
          have hp : (0 : Int) < 2 ^ k := Int.pow_pos (by omega)
          have a0 : 0 ≤ y / 2 ^ k := Int.ediv_nonneg y0 (by omega)
          have a1 : y / 2 ^ k ≤ y := Int.ediv_le_self _ y0
          have st := HU.out.step hlt (y / 2 ^ k) (by rw [hyd, hzd]; simp) ⟨a0, by omega⟩
          exact ⟨j + 1, _, by omega, by go_num, st, hbk.set _ _, ho.setCell _ _⟩
        case measure => simp [intOf] <;> omega
    · obtain rfl : j = m := by omega
      have HL := Lib.hid hl; clear hl
      go_wp2_with fail
      refine (trim_sl _ _ _ Lj wr (hbk.sl HU.out.2.1 HL.out (by omega) (Nat.le_refl _))).mono ?_
      rintro e w4 ⟨i, rfl, hs4, rfl⟩
      go_wp2
      go_ret
      refine ⟨_, i, _, rfl, ?_, by rw [HG.out]; exact hw1.trans (ho.below (Nat.le_refl _))⟩
      rw [HU.out.done hk] at hs4
      exact hs4

theorem pow_le' {a b : Nat} (h : a ≤ b) : 4294967296 ^ a ≤ 4294967296 ^ b := Nat.pow_le_pow_right (by omega) h

theorem num_drop_div {zs : List Int} (h : Wf zs) (s : Nat) (hs : s ≤ zs.length) : num (zs.drop s) = num zs / 4294967296 ^ s := by
  have e := num_append (zs.take s) (zs.drop s)
  rw [List.take_append_drop, List.length_take, Nat.min_eq_left hs] at e
  have h1 := num_lt (h.take s)
  rw [List.length_take, Nat.min_eq_left hs] at h1
  have h0 := num_nonneg (h.take s)
  rw [e, Int.add_mul_ediv_left _ _ (Int.ne_of_gt (pow_pos' s)), Int.ediv_eq_zero_of_lt h0 h1]
  omega

theorem pow32 (s k : Nat) : (2 : Nat) ^ (s * 32 + k) = 4294967296 ^ s * 2 ^ k := by
  rw [Nat.pow_add, Nat.mul_comm s 32, Nat.pow_mul]

/-- a number times a power of two -/
theorem shiftUp_any (a e : Nat) (ao : Option Addr) (n ca : Nat) (w : World) (ha : Sl w ao n ca (limbs a)) (hn : n ≤ 1000000000) (he : e ≤ 30000000000) :
    Calls Tryz.prog 74 #[.slice ao n ca, .int .i64 (e : Int)] w fun r w' => ∃ ao' l cap, r = .returned (.slice ao' l cap) ∧ Sl w' ao' l cap (limbs (a * 2 ^ e)) ∧ Below w.heap.size w w' := by
  have h := shiftUp_raw (limbs a) (e / 32) (e % 32) ao n ca w ha (by omega) hn (by omega)
  have e1 : e / 32 * 32 + e % 32 = e := by omega
  have e2 : (num (limbs a) * 4294967296 ^ (e / 32) * 2 ^ (e % 32)).toNat = a * 2 ^ e := by
    rw [num_limbs]
    have : (a : Int) * 4294967296 ^ (e / 32) * 2 ^ (e % 32) = ((a * 2 ^ e : Nat) : Int) := by
      rw [Int.natCast_mul]
      conv => rhs; rw [← e1, pow32, Int.natCast_mul, Int.natCast_pow, Int.natCast_pow]
      rw [Int.mul_assoc]; rfl
    rw [this, Int.toNat_natCast]
  rw [e1, e2] at h
  exact h

set_option maxRecDepth 100000 in
set_option maxHeartbeats 1000000 in
theorem shiftDown_far (x : Int) (ao : Option Addr) (n ca : Nat) (w : World) (hx0 : 0 ≤ x) (hx1 : x ≤ 100000000000) (hn : (n : Int) ≤ x / 32) :
    Calls Tryz.prog 75 #[.slice ao n ca, .int .i64 x] w fun r w' => r = .returned (.slice none 0 0) ∧ w = w' := by
  go_enter Tryz.func75, Tryz.ntmps75
  go_wp2
  go_ret
  exact ⟨rfl, rfl⟩

/-- a number divided by a power of two -/
theorem shiftDown_any (a e : Nat) (ao : Option Addr) (n ca : Nat) (w : World) (ha : Sl w ao n ca (limbs a)) (hn : n ≤ 1000000000) (he : e ≤ 100000000000) :
    Calls Tryz.prog 75 #[.slice ao n ca, .int .i64 (e : Int)] w fun r w' => ∃ ao' l cap, r = .returned (.slice ao' l cap) ∧ Sl w' ao' l cap (limbs (a / 2 ^ e)) ∧ Below w.heap.size w w' := by
  have e1 : e / 32 * 32 + e % 32 = e := by omega
  by_cases h : e / 32 < n
  · have h := shiftDown_raw (limbs a) (e / 32) (e % 32) ao n ca w ha (by omega) hn h
    have e2 : (num ((limbs a).drop (e / 32)) / 2 ^ (e % 32)).toNat = a / 2 ^ e := by
      rw [num_drop_div (Wf.limbs a) _ (by rw [ha.len]; omega), num_limbs]
      have : (a : Int) / 4294967296 ^ (e / 32) / 2 ^ (e % 32) = ((a / 2 ^ e : Nat) : Int) := by
        conv => rhs; rw [← e1, pow32, ← Nat.div_div_eq_div_mul, Int.natCast_ediv, Int.natCast_ediv, Int.natCast_pow, Int.natCast_pow]
        rfl
      rw [this, Int.toNat_natCast]
    rw [e1, e2] at h
    exact h
  · refine (shiftDown_far e ao n ca w (by omega) (by omega) (by omega)).mono fun r w' ⟨hr, hw⟩ => ⟨none, 0, 0, hr, ?_, ?_⟩
    · have h1 := (limbs_len_le a n).1 (by rw [ha.len]; exact Nat.le_refl _)
      have h2 : a < 2 ^ e := by
        have h3 : 4294967296 ^ n ≤ 2 ^ e := by
          rw [← e1, pow32]
          have := pow_le' (show n ≤ e / 32 by omega)
          exact Nat.le_trans this (Nat.le_mul_of_pos_right _ (Nat.pos_of_ne_zero (by simp)))
        omega
      rw [Nat.div_eq_of_lt h2, limbs_zero]
      exact Sl.nil w'
    · rw [← hw]; exact Below.refl _ _
end Go.Proofs.YtapcecjbmcoliaaGreatDoor
