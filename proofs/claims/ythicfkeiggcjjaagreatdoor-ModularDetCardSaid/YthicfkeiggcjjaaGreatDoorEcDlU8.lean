import Derived.Test.YthicfkeiggcjjaaGreatDoorEcDlU3
import Derived.Test.YthicfkeiggcjjaaGreatDoorEcDlU7
import Derived.Test.YthicfkeiggcjjaaGreatDoorEcDlU5
namespace Go.Proofs.YthicfkeiggcjjaaGreatDoor
open Go.RowKit

/-- from limb k on the quotient stands in Q, and r is left -/
def Quot (L Q : List Int) (k : Nat) (r b : Int) : Prop :=
  Q.length = L.length ∧ Wf Q ∧ 0 ≤ r ∧ r < b ∧ num (L.drop k) = num (Q.drop k) * b + r

theorem num_drop (zs : List Int) (j : Nat) (h : j < zs.length) : num (zs.drop j) = zs.getD j 0 + 4294967296 * num (zs.drop (j + 1)) := by
  rw [List.drop_eq_getElem_cons h, ← getD_at h]; rfl

theorem Quot.step {L Q : List Int} {j : Nat} {r b : Int} (h : Quot L Q (j + 1) r b) (hj : j < L.length) (hq : 0 ≤ (r * 4294967296 + L.getD j 0) / b ∧ (r * 4294967296 + L.getD j 0) / b < 4294967296) (hb : 0 < b) :
    Quot L (Q.set j ((r * 4294967296 + L.getD j 0) / b)) j ((r * 4294967296 + L.getD j 0) % b) b := by
  obtain ⟨h1, h2, h3, h4, h5⟩ := h
  refine ⟨by simpa using h1, h2.set _ hq, Int.emod_nonneg _ (by omega), Int.emod_lt_of_pos _ hb, ?_⟩
  rw [num_drop L j hj, num_drop (Q.set j _) j (by simpa [h1] using hj), h5, List.drop_set_of_lt (by omega)]
  have e : (Q.set j ((r * 4294967296 + L.getD j 0) / b)).getD j 0 = (r * 4294967296 + L.getD j 0) / b := by
    simp [List.getD, h1, hj]
  rw [e]
  have ed := Int.mul_ediv_add_emod (r * 4294967296 + L.getD j 0) b
  rw [Int.mul_comm] at ed
  rw [Int.add_mul, Int.mul_assoc, Int.mul_add]
  omega

set_option maxRecDepth 100000 in
set_option maxHeartbeats 1000000 in
theorem divLimb_any (a : Nat) (ao : Option Addr) (n ca : Nat) (b : Int) (w : World) (ha : Sl w ao n ca (limbs a)) (hb0 : 0 < b) (hb1 : b < 4294967296) :
    Calls Tryz.prog 108 #[.slice ao n ca, .int .u32 b] w fun e w' => ∃ qo qk qc ro rk rc, e = .returned (.tuple #[.slice qo qk qc, .slice ro rk rc]) ∧
      Sl w' qo qk qc (limbs (a / b.toNat)) ∧ Sl w' ro rk rc (limbs (a % b.toNat)) ∧ Below w.heap.size w w' := by
  have hn := ha.big
  go_enter Tryz.func108, Tryz.ntmps108
  go_wp2_with (refine wpList_make_u32 _ rfl _ _ rfl _ n rfl rfl rfl hn ?_)
  intro w1 hb1' hw1
  have hsa := ha.cells.stay_below hw1 (Nat.le_refl _)
  have hal := ha.len
  have HAL := Lib.hid hal; clear hal
  have hwa := ha.wf
  generalize hg : w.heap.size = g at *
  have HG := Lib.hid hg; clear hg
  go_wp2
  go_loopw [6, 7] (fun r i wr => ∃ (k : Nat) (rr : Int) (Q : List Int), k ≤ n ∧ i = .int .i64 ((k : Int) - 1) ∧ r = .int .u32 rr ∧ Quot (limbs a) Q k rr b ∧ Blk wr g Q ∧ Only g w1 wr)
    (fun _ i _ => (intOf i + 1).toNat)
  case atStart => exact ⟨n, 0, _, Nat.le_refl _, rfl, rfl, ⟨by simp [HAL.out], Wf.replicate _, by omega, hb0, by rw [List.drop_eq_nil_of_le (by rw [HAL.out]; exact Nat.le_refl _), List.drop_eq_nil_of_le (by simp)]; simp [num]⟩, hb1', Only.refl g w1⟩
  case round =>
    obtain ⟨k, rr, Q, hk, rfl, rfl, hQ, hbk, ho⟩ := hrel
    have HQ := Lib.hid hQ; clear hQ
    by_cases hlt : 0 < k
    · obtain ⟨j, rfl⟩ : ∃ j, k = j + 1 := ⟨k - 1, by omega⟩
      obtain ⟨bb, ob, rfl, hcb⟩ := hsa _ ho (by rw [HAL.out]; omega)
      have c1 := hcb j (by rw [HAL.out]; omega)
      clear hcb
      have hxr := hwa.getD j
      obtain ⟨x, hx⟩ : ∃ x, (limbs a).getD j 0 = x := ⟨_, rfl⟩
      rw [hx] at c1 hxr
      have HX := Lib.hid hx; clear hx
      obtain ⟨x0, x1⟩ := hxr
      have r0 := HQ.out.2.2.1
      have r1 := HQ.out.2.2.2.1
      have c2 := hbk.cell j (by rw [HQ.out.1, HAL.out]; omega)
      have c3 := hbk.frozen j
      have ej : ((j + 1 : Nat) : Int) - 1 = (j : Int) := by omega
      rw [ej]
      clear ej
      go_wp2_with fail
      refine (div32_any rr x b wr r0 r1 hb1 x0 x1).mono ?_
      rintro e w2 ⟨rfl, q, rfl⟩
      go_wp2
      go_roundw
      case rel =>
        have hq0 : 0 ≤ (rr * 4294967296 + x) / b := Int.ediv_nonneg (by omega) (by omega)
        have hq1 : (rr * 4294967296 + x) / b < 4294967296 := by
          apply Int.ediv_lt_of_lt_mul hb0
          have : (rr + 1) * 4294967296 ≤ b * 4294967296 := Int.mul_le_mul_of_nonneg_right (by omega) (by omega)
          rw [Int.mul_comm 4294967296 b]
          omega
        have st := HQ.out.step (by rw [HAL.out]; omega) (by rw [HX.out]; exact ⟨hq0, hq1⟩) hb0
        rw [HX.out] at st
        exact ⟨j, _, _, by omega, by go_num, rfl, st, (hbk.drewN q).set _ _, (ho.drewN q).setCell _ _⟩
      case measure => simp [intOf] <;> omega
    · obtain rfl : k = 0 := by omega
      have hlen : Q.length = n := by rw [HQ.out.1, HAL.out]
      go_wp2_with fail
      refine (trim_sl _ _ _ Q wr (hbk.sl HQ.out.2.1 hlen hn (Nat.le_refl _))).mono ?_
      rintro e w4 ⟨i, rfl, hs, rfl⟩
      have HLn := Lib.hid hlen; clear hlen
      go_wp2_with fail
      have hbr : Blk (wr.alloc (.cells #[.int .u32 rr] 83)) wr.heap.size [rr] := heap_alloc_new wr _
      refine (trim_sl _ _ _ [rr] _ (hbr.sl (n := 1) (Wf.cons ⟨HQ.out.2.2.1, by have := HQ.out.2.2.2.1; omega⟩ Wf.nil) rfl (by omega) (Nat.le_refl _))).mono ?_
      rintro e w5 ⟨i2, rfl, hs2, rfl⟩
      have hbw := (Below.refl wr.heap.size wr).alloc (Nat.le_refl _) (.cells #[.int .u32 rr] 83)
      go_wp2
      go_ret2
      obtain ⟨_, hwf, r0, r1, he⟩ := HQ.out
      rw [List.drop_zero, List.drop_zero, num_limbs] at he
      have hq0 := num_nonneg hwf
      have hdv : num Q = (a : Int) / b := by
        rw [he, Int.add_comm, Int.add_mul_ediv_right _ _ (by omega), Int.ediv_eq_zero_of_lt r0 r1]; omega
      have hmd : rr = (a : Int) % b := by
        rw [he, Int.add_comm, Int.add_mul_emod_self_right, Int.emod_eq_of_lt r0 r1]
      have hbn : ((b.toNat : Nat) : Int) = b := Int.toNat_of_nonneg (by omega)
      refine ⟨_, i, _, _, i2, _, rfl, ?_, ?_, ?_⟩
      · have := hs.below hbw
        rw [hdv, ← hbn, ← Int.natCast_ediv, Int.toNat_natCast] at this
        exact this
      · have e2 : num [rr] = rr := by simp [num]
        have e3 : (num [rr]).toNat = a % b.toNat := by rw [e2, hmd, ← hbn, ← Int.natCast_emod, Int.toNat_natCast, hbn]
        rw [e3] at hs2
        exact hs2
      · rw [HG.out]
        have hb2 := hw1.trans (ho.below (Nat.le_refl g))
        exact hb2.trans (hbw.mono (Nat.le_of_lt hbk.lt))
end Go.Proofs.YthicfkeiggcjjaaGreatDoor

namespace Go.Proofs.YthicfkeiggcjjaaGreatDoor
open Go.RowKit

set_option maxRecDepth 100000 in
set_option maxHeartbeats 1000000 in
theorem divide_less (a b : Nat) (ao bo : Option Addr) (n m ca cb : Nat) (w : World) (ha : Sl w ao n ca (limbs a)) (hb : Sl w bo m cb (limbs b)) (hab : a < b) :
    Calls Tryz.prog 95 #[.slice ao n ca, .slice bo m cb] w fun e w' => ∃ qo qk qc ro rk rc, e = .returned (.tuple #[.slice qo qk qc, .slice ro rk rc]) ∧
      Sl w' qo qk qc (limbs (a / b)) ∧ Sl w' ro rk rc (limbs (a % b)) ∧ Below w.heap.size w w' := by
  have hs : decide (sgn3 (a : Int) b < 0) = true := by simp [sgn3]; omega
  have H := Lib.hid hab; clear hab
  go_enter Tryz.func95, Tryz.ntmps95
  go_wp2_with fail
  refine (compare_any _ _ _ _ _ _ _ _ _ ha hb).mono ?_
  rintro e w1 ⟨rfl, q, rfl⟩
  go_wp2_with fail
  refine (clone_any _ _ _ _ _ (ha.drewN q)).mono ?_
  rintro e w2 ⟨rfl, hb2, hw2⟩
  go_wp2
  go_ret2
  refine ⟨_, _, _, _, _, _, rfl, ?_, ?_, ?_⟩
  · rw [Nat.div_eq_of_lt H.out, limbs_zero]; exact Sl.nil _
  · rw [Nat.mod_eq_of_lt H.out]
    exact hb2.sl (Wf.limbs a) ha.len ha.big (Nat.le_refl _)
  · exact (below_drewN (Below.refl _ w) q).trans hw2

set_option maxRecDepth 100000 in
set_option maxHeartbeats 1000000 in
theorem divide_limb (a b : Nat) (ao bo : Option Addr) (n ca cb : Nat) (w : World) (ha : Sl w ao n ca (limbs a)) (hb : Sl w bo 1 cb (limbs b)) (hab : b ≤ a) :
    Calls Tryz.prog 95 #[.slice ao n ca, .slice bo 1 cb] w fun e w' => ∃ qo qk qc ro rk rc, e = .returned (.tuple #[.slice qo qk qc, .slice ro rk rc]) ∧
      Sl w' qo qk qc (limbs (a / b)) ∧ Sl w' ro rk rc (limbs (a % b)) ∧ Below w.heap.size w w' := by
  have hs : decide (sgn3 (a : Int) b < 0) = false := by simp [sgn3]; omega
  have H := Lib.hid hab; clear hab
  obtain ⟨bb, ob, rfl, hc⟩ := hb.cells (by rw [hb.len]; omega)
  have c1 := hc 0 (by rw [hb.len]; omega)
  clear hc
  have hbl := hb.len
  have hb1 := (limbs_len_le b 1).1 (by omega)
  have hbn : b ≠ 0 := by rintro rfl; rw [limbs_zero] at hbl; cases hbl
  have hb0 : (limbs b).getD 0 0 = (b : Int) := by
    rw [limbs_pos hbn]; simp [List.getD]; omega
  rw [hb0, Nat.add_zero] at c1
  have HBL := Lib.hid hbl; clear hbl hb0
  go_enter Tryz.func95, Tryz.ntmps95
  go_wp2_with fail
  refine (compare_any _ _ _ _ _ _ _ _ _ ha hb).mono ?_
  rintro e w1 ⟨rfl, q, rfl⟩
  go_wp2_with fail
  refine (divLimb_any _ _ _ _ (b : Int) _ (ha.drewN q) (by omega) (by omega)).mono ?_
  rintro e w2 ⟨qo, qk, qc, ro, rk, rc, rfl, hq, hr, hw2⟩
  go_wp2
  go_ret2
  rw [Int.toNat_natCast] at hq hr
  exact ⟨_, _, _, _, _, _, rfl, hq, hr, (below_drewN (Below.refl _ w) q).trans hw2⟩
end Go.Proofs.YthicfkeiggcjjaaGreatDoor
