import Derived.Test.YthicfkeiggcjjaaGreatDoorEcDlU41
namespace Go.Proofs.YthicfkeiggcjjaaGreatDoor
open Go Go.RowKit

/-- a slice that is not empty lies in a block from C on -/
def NewA (C : Nat) (ao : Option Addr) (n : Nat) : Prop := 0 < n → ∃ g, ao = some ⟨g, 0, none⟩ ∧ C ≤ g
set_option maxRecDepth 100000 in
set_option maxHeartbeats 1000000 in
theorem divideN_less (a b : Nat) (ao bo : Option Addr) (n m ca cb : Nat) (w : World) (ha : Sl w ao n ca (limbs a)) (hb : Sl w bo m cb (limbs b)) (hab : a < b) :
    Calls Tryz.prog 95 #[.slice ao n ca, .slice bo m cb] w fun e w' => ∃ qo qk qc ro rk rc, e = .returned (.tuple #[.slice qo qk qc, .slice ro rk rc]) ∧
      Sl w' qo qk qc (limbs (a / b)) ∧ Sl w' ro rk rc (limbs (a % b)) ∧ NewA w.heap.size qo qk ∧ NewA w.heap.size ro rk ∧ Below w.heap.size w w' := by
  have hs : decide (sgn3 (a : Int) b < 0) = true := by simp [sgn3]; omega
  have H := Lib.hid hab; clear hab
  go_enter Tryz.func95, Tryz.ntmps95
  go_wp2_with fail
  refine (compare_any _ _ _ _ _ _ _ _ _ ha hb).mono ?_
  rintro e w1 ⟨rfl, q, rfl⟩
  go_wp2_with fail
  refine (clone_any _ _ _ _ _ (ha.drewN q)).mono ?_
  rintro e w2 ⟨rfl, hb2, hw2⟩
  go_wp2
  go_ret2
  refine ⟨_, _, _, _, _, _, rfl, ?_, ?_, fun h => absurd h (by omega), fun _ => ⟨_, rfl, Nat.le_refl _⟩, ?_⟩
  · rw [Nat.div_eq_of_lt H.out, limbs_zero]; exact Sl.nil _
  · rw [Nat.mod_eq_of_lt H.out]
    exact hb2.sl (Wf.limbs a) ha.len ha.big (Nat.le_refl _)
  · exact (below_drewN (Below.refl _ w) q).trans hw2

set_option maxRecDepth 100000 in
set_option maxHeartbeats 1000000 in
theorem divLimbN_any (a : Nat) (ao : Option Addr) (n ca : Nat) (b : Int) (w : World) (ha : Sl w ao n ca (limbs a)) (hb0 : 0 < b) (hb1 : b < 4294967296) :
    Calls Tryz.prog 108 #[.slice ao n ca, .int .u32 b] w fun e w' => ∃ qo qk qc ro rk rc, e = .returned (.tuple #[.slice qo qk qc, .slice ro rk rc]) ∧
      Sl w' qo qk qc (limbs (a / b.toNat)) ∧ Sl w' ro rk rc (limbs (a % b.toNat)) ∧ NewA w.heap.size qo qk ∧ NewA w.heap.size ro rk ∧ Below w.heap.size w w' := by
  have hn := ha.big
  go_enter Tryz.func108, Tryz.ntmps108
  go_wp2_with (refine wpList_make_u32 _ rfl _ _ rfl _ n rfl rfl rfl hn ?_)
  intro w1 hb1' hw1
  have hsa := ha.cells.stay_below hw1 (Nat.le_refl _)
  have hal := ha.len
  have HAL := Lib.hid hal; clear hal
  have hwa := ha.wf
  generalize hg : w.heap.size = g at *
  have HG := Lib.hid hg; clear hg
  go_wp2
  go_loopw [6, 7] (fun r i wr => ∃ (k : Nat) (rr : Int) (Q : List Int), k ≤ n ∧ i = .int .i64 ((k : Int) - 1) ∧ r = .int .u32 rr ∧ Quot (limbs a) Q k rr b ∧ Blk wr g Q ∧ Only g w1 wr)
    (fun _ i _ => (intOf i + 1).toNat)
  case atStart => exact ⟨n, 0, _, Nat.le_refl _, rfl, rfl, ⟨by simp [HAL.out], Wf.replicate _, by omega, hb0, by rw [List.drop_eq_nil_of_le (by rw [HAL.out]; exact Nat.le_refl _), List.drop_eq_nil_of_le (by simp)]; simp [num]⟩, hb1', Only.refl g w1⟩
  case round =>
    obtain ⟨k, rr, Q, hk, rfl, rfl, hQ, hbk, ho⟩ := hrel
    have HQ := Lib.hid hQ; clear hQ
    by_cases hlt : 0 < k
    · obtain ⟨j, rfl⟩ : ∃ j, k = j + 1 := ⟨k - 1, by omega⟩
      obtain ⟨bb, ob, rfl, hcb⟩ := hsa _ ho (by rw [HAL.out]; omega)
      have c1 := hcb j (by rw [HAL.out]; omega)
      clear hcb
      have hxr := hwa.getD j
      obtain ⟨x, hx⟩ : ∃ x, (limbs a).getD j 0 = x := ⟨_, rfl⟩
      rw [hx] at c1 hxr
      have HX := Lib.hid hx; clear hx
      obtain ⟨x0, x1⟩ := hxr
      have r0 := HQ.out.2.2.1
      have r1 := HQ.out.2.2.2.1
      have c2 := hbk.cell j (by rw [HQ.out.1, HAL.out]; omega)
      have c3 := hbk.frozen j
      have ej : ((j + 1 : Nat) : Int) - 1 = (j : Int) := by omega
      rw [ej]
      clear ej
      go_wp2_with fail
      refine (div32_any rr x b wr r0 r1 hb1 x0 x1).mono ?_
      rintro e w2 ⟨rfl, q, rfl⟩
      go_wp2
      go_roundw
      case rel =>
        have hq0 : 0 ≤ (rr * 4294967296 + x) / b := Int.ediv_nonneg (by omega) (by omega)
        have hq1 : (rr * 4294967296 + x) / b < 4294967296 := by
          apply Int.ediv_lt_of_lt_mul hb0
          have : (rr + 1) * 4294967296 ≤ b * 4294967296 := Int.mul_le_mul_of_nonneg_right (by omega) (by omega)
          rw [Int.mul_comm 4294967296 b]
          omega
        have st := HQ.out.step (by rw [HAL.out]; omega) (by rw [HX.out]; exact ⟨hq0, hq1⟩) hb0
        rw [HX.out] at st
        exact ⟨j, _, _, by omega, by go_num, rfl, st, (hbk.drewN q).set _ _, (ho.drewN q).setCell _ _⟩
      case measure => simp [intOf] <;> omega
    · obtain rfl : k = 0 := by omega
      have hlen : Q.length = n := by rw [HQ.out.1, HAL.out]
      go_wp2_with fail
      refine (trim_sl _ _ _ Q wr (hbk.sl HQ.out.2.1 hlen hn (Nat.le_refl _))).mono ?_
      rintro e w4 ⟨i, rfl, hs, rfl⟩
      have HLn := Lib.hid hlen; clear hlen
      go_wp2_with fail
      have hbr : Blk (wr.alloc (.cells #[.int .u32 rr] 83)) wr.heap.size [rr] := heap_alloc_new wr _
      refine (trim_sl _ _ _ [rr] _ (hbr.sl (n := 1) (Wf.cons ⟨HQ.out.2.2.1, by have := HQ.out.2.2.2.1; omega⟩ Wf.nil) rfl (by omega) (Nat.le_refl _))).mono ?_
      rintro e w5 ⟨i2, rfl, hs2, rfl⟩
      have hbw := (Below.refl wr.heap.size wr).alloc (Nat.le_refl _) (.cells #[.int .u32 rr] 83)
      go_wp2
      go_ret2
      obtain ⟨_, hwf, r0, r1, he⟩ := HQ.out
      rw [List.drop_zero, List.drop_zero, num_limbs] at he
      have hq0 := num_nonneg hwf
      have hdv : num Q = (a : Int) / b := by
        rw [he, Int.add_comm, Int.add_mul_ediv_right _ _ (by omega), Int.ediv_eq_zero_of_lt r0 r1]; omega
      have hmd : rr = (a : Int) % b := by
        rw [he, Int.add_comm, Int.add_mul_emod_self_right, Int.emod_eq_of_lt r0 r1]
      have hbn : ((b.toNat : Nat) : Int) = b := Int.toNat_of_nonneg (by omega)
      refine ⟨_, i, _, _, i2, _, rfl, ?_, ?_, fun _ => ⟨_, rfl, Nat.le_of_eq HG.out⟩, fun _ => ⟨_, rfl, by have := hbk.lt; have := HG.out; omega⟩, ?_⟩
      · have := hs.below hbw
        rw [hdv, ← hbn, ← Int.natCast_ediv, Int.toNat_natCast] at this
        exact this
      · have e2 : num [rr] = rr := by simp [num]
        have e3 : (num [rr]).toNat = a % b.toNat := by rw [e2, hmd, ← hbn, ← Int.natCast_emod, Int.toNat_natCast, hbn]
        rw [e3] at hs2
        exact hs2
      · rw [HG.out]
        have hb2 := hw1.trans (ho.below (Nat.le_refl g))
        exact hb2.trans (hbw.mono (Nat.le_of_lt hbk.lt))

set_option maxRecDepth 100000 in
set_option maxHeartbeats 1000000 in
theorem divideN_limb (a b : Nat) (ao bo : Option Addr) (n ca cb : Nat) (w : World) (ha : Sl w ao n ca (limbs a)) (hb : Sl w bo 1 cb (limbs b)) (hab : b ≤ a) :
    Calls Tryz.prog 95 #[.slice ao n ca, .slice bo 1 cb] w fun e w' => ∃ qo qk qc ro rk rc, e = .returned (.tuple #[.slice qo qk qc, .slice ro rk rc]) ∧
      Sl w' qo qk qc (limbs (a / b)) ∧ Sl w' ro rk rc (limbs (a % b)) ∧ NewA w.heap.size qo qk ∧ NewA w.heap.size ro rk ∧ Below w.heap.size w w' := by
  have hs : decide (sgn3 (a : Int) b < 0) = false := by simp [sgn3]; omega
  have H := Lib.hid hab; clear hab
  obtain ⟨bb, ob, rfl, hc⟩ := hb.cells (by rw [hb.len]; omega)
  have c1 := hc 0 (by rw [hb.len]; omega)
  clear hc
  have hbl := hb.len
  have hb1 := (limbs_len_le b 1).1 (by omega)
  have hbn : b ≠ 0 := by rintro rfl; rw [limbs_zero] at hbl; cases hbl
  have hb0 : (limbs b).getD 0 0 = (b : Int) := by
    rw [limbs_pos hbn]; simp [List.getD]; omega
  rw [hb0, Nat.add_zero] at c1
  have HBL := Lib.hid hbl; clear hbl hb0
  go_enter Tryz.func95, Tryz.ntmps95
  go_wp2_with fail
  refine (compare_any _ _ _ _ _ _ _ _ _ ha hb).mono ?_
  rintro e w1 ⟨rfl, q, rfl⟩
  go_wp2_with fail
  refine (divLimbN_any _ _ _ _ (b : Int) _ (ha.drewN q) (by omega) (by omega)).mono ?_
  rintro e w2 ⟨qo, qk, qc, ro, rk, rc, rfl, hq, hr, hn1, hn2, hw2⟩
  go_wp2
  go_ret2
  rw [Int.toNat_natCast] at hq hr
  exact ⟨_, _, _, _, _, _, rfl, hq, hr, hn1, hn2, (below_drewN (Below.refl _ w) q).trans hw2⟩

set_option maxRecDepth 100000 in
set_option maxHeartbeats 4000000 in
theorem divideN_own (a b : Nat) (ao bo : Option Addr) (n mm ca cb : Nat) (w : World) (ha : Sl w ao n ca (limbs a)) (hb : Sl w bo (mm + 2) cb (limbs b)) (hab : b ≤ a) (hn : n ≤ 100000000) :
    Calls Tryz.prog 95 #[.slice ao n ca, .slice bo (mm + 2) cb] w fun e w' => ∃ qo qk qc ro rk rc, e = .returned (.tuple #[.slice qo qk qc, .slice ro rk rc]) ∧
      Sl w' qo qk qc (limbs (a / b)) ∧ OwnR w' w.heap.size ro rk rc (a % b) ∧ NewA w.heap.size qo qk ∧ Below w.heap.size w w' := by
  have hs : decide (sgn3 (a : Int) b < 0) = false := by simp [sgn3]; omega
  have hmn : mm + 2 ≤ n := by
    have := limbs_mono hab
    rw [ha.len, hb.len] at this
    exact this
  obtain ⟨k, hk, hlz, hvl, hvt⟩ := norm_shift (b := b) (m := mm + 1) (by rw [hb.len])
  obtain ⟨bb, ob, rfl, hc⟩ := hb.cells (by rw [hb.len]; omega)
  have c1 := hc (mm + 1) (by rw [hb.len]; omega)
  clear hc
  have hxr := (Wf.limbs b).getD (mm + 1)
  obtain ⟨x, hx⟩ : ∃ x, (limbs b).getD (mm + 1) 0 = x := ⟨_, rfl⟩
  rw [hx] at c1 hxr hlz
  have HX := Lib.hid hx; clear hx
  obtain ⟨x0, x1⟩ := hxr
  have HLZ := Lib.hid hlz; clear hlz
  have H := Lib.hid hab; clear hab
  have em : (((mm : Int) + 2) == 1) = false := by apply beq_eq_false_iff_ne.2; omega
  go_enter Tryz.func95, Tryz.ntmps95
  go_wp2_with fail
  refine (compare_any _ _ _ _ _ _ _ _ _ ha hb).mono ?_
  rintro e w1 ⟨rfl, q, rfl⟩
  have hbl := hb.len
  obtain ⟨W1, hW1, hq⟩ := drewN_world w q
  rw [hW1]
  clear hW1
  have ha1 := ha.below hq
  have hb1 := hb.below hq
  have c2 : W1.cell? ⟨bb, ob + (mm + 1), none⟩ = some (.int .u32 x) := by rw [hq.cell (p := ⟨bb, ob + (mm + 1), none⟩) (lt_of_cell c1)]; exact c1
  go_wp2_with fail
  refine (Tryz.bits_LeadingZeros32 x _ x0 (by omega)).mono ?_
  rintro e w2 ⟨rfl, rfl⟩
  rw [HLZ.out]
  go_wp2_with fail
  refine (shiftUp_any b k _ _ _ _ hb1 (by omega) (by omega)).mono ?_
  rintro e W2 ⟨vo, vn, vc, rfl, hv2, hw2⟩
  have hvn : vn = mm + 2 := by rw [← hv2.len, hvl]
  subst hvn
  have ha2 := ha1.below hw2
  have hB2 := hq.trans (hw2.mono hq.size)
  clear c1 c2 hb1 ha1 hb hq hw2
  go_wp2_with (refine wpList_make_u32 _ rfl _ _ rfl _ (n + 1) rfl rfl (by omega) (by omega) ?_)
  intro W3 hb3 hw3
  have ha3 := ha2.below hw3
  generalize hg : W2.heap.size = g at *
  have HG := Lib.hid hg; clear hg
  have hg3 := hb3.lt
  go_wp2_with fail
  refine (shiftUp_any a k _ _ _ _ ha3 (by omega) (by omega)).mono ?_
  rintro e W4 ⟨uo, un, uc, rfl, hu4, hw4⟩
  have hb4 := hb3.below hw4
  have hg4 := hw4.size
  have hun : un ≤ n + 1 := by
    rw [← hu4.len]
    have h1 := (limbs_len_le a n).1 (by rw [ha2.len]; exact Nat.le_refl _)
    refine (limbs_len_le _ _).2 ?_
    have h2 : 2 ^ k < 4294967296 := by
      have := Nat.pow_lt_pow_right (show 1 < 2 by omega) hk
      omega
    calc a * 2 ^ k < 4294967296 ^ n * 2 ^ k := Nat.mul_lt_mul_of_pos_right h1 (Nat.pos_of_ne_zero (by simp))
      _ ≤ 4294967296 ^ n * 4294967296 := Nat.mul_le_mul_left _ (Nat.le_of_lt h2)
      _ = _ := (Nat.pow_succ ..).symm
  go_wp2_with (with_reducible refine wpList_copy_u32 rfl (.tmp 42) (.tmp 45) rfl Tryz.underlying50 Tryz.sizeU32 g 0 (n + 1) (n + 1) uo un uc rfl rfl _ hb4 _ hu4 hun (by simp; omega) ?_)
  intro W5 hb5 hw5
  have hg5 : W4.heap.size ≤ W5.heap.size := Nat.le_of_eq hw5.size.symm
  have hB5 : Below g W2 W5 := (hw3.trans (hw4.mono (by omega))).trans (hw5.below (Nat.le_refl _))
  obtain ⟨U0, hU0⟩ : ∃ U0, splice (List.replicate (n + 1) 0) 0 (limbs (a * 2 ^ k)) = U0 := ⟨_, rfl⟩
  rw [hU0] at hb5
  have hU0l : U0.length = n + 1 := by
    have := hu4.len
    rw [← hU0]; simp [splice]; omega
  have hU0w : Wf U0 := by
    rw [← hU0]; simp only [splice, List.take_zero, List.nil_append]
    exact (Wf.limbs _).append ((Wf.replicate _).drop _)
  have hU0n : num U0 = ((a * 2 ^ k : Nat) : Int) := by
    rw [← hU0]; simp only [splice, List.take_zero, List.nil_append]
    rw [num_append, List.drop_replicate, num_replicate, num_limbs]; simp
  have HU0 := Lib.hid hU0; clear hU0 hun hu4 hw4 hw5 hb4 hb3 ha3 hw3 ha2
  obtain ⟨nq, hnq⟩ : ∃ nq : Nat, (n : Int) - (mm + 2) + 1 = nq := ⟨n - (mm + 2) + 1, by omega⟩
  have HNQ := Lib.hid hnq
  have hnq1 : nq ≤ 100000000 := by omega
  go_wp2_with (refine wpList_make_u32 _ rfl _ _ rfl _ nq rfl rfl (by omega) (by omega) ?_)
  intro W6 hb6 hw6
  have hbu := hb5.below hw6
  have hB6 := hB5.trans (hw6.mono (by omega))
  generalize hgq : W5.heap.size = gq at *
  have HGQ := Lib.hid hgq; clear hgq
  clear hw6 hb5 hB5
  have hgg : g < gq := by omega
  have hgg' : g ≠ gq := by omega
  have v0 : (0 : Int) < ((b * 2 ^ k : Nat) : Int) := by
    have h1 : b ≠ 0 := by rintro rfl; rw [limbs_zero] at hbl; cases hbl
    have := Nat.mul_pos (Nat.pos_of_ne_zero h1) (show 0 < 2 ^ k from Nat.pos_of_ne_zero (by simp))
    omega
  have v1 : ((b * 2 ^ k : Nat) : Int) < 4294967296 ^ (mm + 2) := by
    have h1 := (limbs_len_le (b * 2 ^ k) (mm + 2)).1 (by rw [hvl]; exact Nat.le_refl _)
    have h2 := Int.ofNat_lt.2 h1
    rw [Int.natCast_pow] at h2
    exact h2
  have hstart : Knuth ((a * 2 ^ k : Nat) : Int) ((b * 2 ^ k : Nat) : Int) U0 (List.replicate nq 0) (n + 1) nq nq := by
    refine ⟨hU0l, by simp, hU0w, Wf.replicate _, ?_, ?_⟩
    · rw [hU0n, List.drop_eq_nil_of_le (by simp)]; simp [num]
    · rw [hU0n]
      have h1 := (limbs_len_le a n).1 (by rw [ha.len]; exact Nat.le_refl _)
      have h2 : 4294967296 ^ (mm + 1) ≤ b := by
        rcases Nat.lt_or_ge b (4294967296 ^ (mm + 1)) with h | h
        · have := (limbs_len_le b (mm + 1)).2 h; omega
        · exact h
      have h3 : a * 2 ^ k < b * 2 ^ k * 4294967296 ^ nq := by
        have e : n = mm + 1 + nq := by omega
        rw [e, Nat.pow_add] at h1
        have h4 := Nat.mul_le_mul_right (4294967296 ^ nq) h2
        have h5 := Nat.mul_lt_mul_of_pos_right (Nat.lt_of_lt_of_le h1 h4) (show 0 < 2 ^ k from Nat.pos_of_ne_zero (by simp))
        rwa [Nat.mul_right_comm] at h5
      have h4 := Int.ofNat_lt.2 h3
      rw [Int.natCast_mul (b * 2 ^ k), Int.natCast_pow] at h4
      exact h4
  have HV0 := Lib.hid v0; clear v0
  have HV1 := Lib.hid v1; clear v1
  have HNQ' := Lib.hid hnq; clear hnq
  go_wp2
  go_loopw [9] (fun i wr => ∃ (j : Nat) (U Q : List Int), j ≤ nq ∧ i = .int .i64 ((j : Int) - 1) ∧ Knuth ((a * 2 ^ k : Nat) : Int) ((b * 2 ^ k : Nat) : Int) U Q (n + 1) nq j ∧ Blk wr g U ∧ Blk wr gq Q ∧ Below g W2 wr)
    (fun i _ => (intOf i + 1).toNat)
  case atStart => exact ⟨nq, U0, _, Nat.le_refl _, rfl, hstart, hbu, hb6, hB6⟩
  case round =>
    obtain ⟨j, U, Q, hj, rfl, hK, hbu, hbq, hB⟩ := hrel
    have HK := Lib.hid hK; clear hK
    by_cases hlt : 0 < j
    · obtain ⟨t, rfl⟩ : ∃ t, j = t + 1 := ⟨j - 1, by omega⟩
      have ej : ((t + 1 : Nat) : Int) - 1 = (t : Int) := by omega
      rw [ej]
      clear ej
      have c3 := hbq.frozen t
      have c2 := hbq.cell t (by rw [HK.out.2.1]; omega)
      have hcap : (t : Int) + (mm + 2) + 1 ≤ n + 1 := by have := HNQ.out; omega
      have hfit : t + (mm + 1 + 1 + 1) ≤ n + 1 := by omega
      have hUl := HK.out.1
      have hQl := HK.out.2.1
      have hwU := HK.out.2.2.1
      go_wp2_with fail
      rw [show t + (mm + 2) + 1 - t = mm + 2 + 1 by omega]
      have hdiv := hv2.cells.stay_below (g := g) (hB.mono (Nat.le_of_eq HG.out)) (by rw [HG.out]; exact Nat.le_refl _)
      have hwin := HK.out.window (m := mm + 2) HV1.out hfit
      have hsplit : U = U.take t ++ ((U.drop t).take (mm + 2 + 1) ++ U.drop (t + (mm + 2 + 1))) := by
        rw [← List.drop_drop, List.take_append_drop, List.take_append_drop]
      have hmid : Mid wr g (U.take t) ((U.drop t).take (mm + 2 + 1)) (U.drop (t + (mm + 2 + 1))) := by
        unfold Mid; rw [← hsplit]; exact hbu
      refine (reduce_any g t mm _ _ (U.take t) ((U.drop t).take (mm + 2 + 1)) (U.drop (t + (mm + 2 + 1))) (limbs (b * 2 ^ k)) _ _ (by rw [List.length_take]; omega) (by rw [List.length_take, List.length_drop]; omega) ((hwU.drop t).take _) hmid (by omega)
        (Wf.limbs _) (by rw [hvl]) hdiv hvt (by rw [num_limbs]; exact hwin.2.2)).mono ?_
      rintro e w7 ⟨V', rfl, hVl, hVw, hVn, hm7, ho7⟩
      rw [num_limbs] at hVn ⊢
      have hst := HK.out.step HV0.out HV1.out hfit (by omega) hVl hVw hVn
      have c4 := (hbq.only ho7 (Ne.symm hgg')).frozen t
      have c5 := (hbq.only ho7 (Ne.symm hgg')).cell t (by omega)
      have hq7 := hbq.only ho7 (Ne.symm hgg')
      generalize num (List.take (mm + 2 + 1) (List.drop t U)) / ((b * 2 ^ k : Nat) : Int) = Z at *
      clear c2 c3 hsplit hmid hbu hbq hdiv
      have hB7 := hB.trans (ho7.below (Nat.le_refl _))
      go_wp2
      go_roundw
      case rel => exact ⟨t, _, _, by omega, rfl, hst, Blk.only hm7 ((Only.refl gq w7).setCell _ _) hgg', hq7.set _ _, hB7.trans (((Only.refl gq w7).setCell _ _).below (Nat.le_of_lt hgg))⟩
      case measure => simp [intOf] <;> omega
    · obtain rfl : j = 0 := by omega
      obtain ⟨hUl, hQl, hwU, hwQ, he, hltv⟩ := HK.out
      have v0 := HV0.out
      rw [Int.pow_zero, Int.one_mul, List.drop_zero] at he
      rw [Int.pow_zero, Int.mul_one] at hltv
      have u0 := num_nonneg hwU
      have q0 := num_nonneg hwQ
      have hdm : num Q = ((a / b : Nat) : Int) ∧ num U = ((a % b * 2 ^ k : Nat) : Int) := by
        have hkk : 0 < 2 ^ k := Nat.pos_of_ne_zero (by simp)
        have e1 : ((a * 2 ^ k : Nat) : Int) / ((b * 2 ^ k : Nat) : Int) = num Q := by
          rw [he, Int.add_mul_ediv_left _ _ (by omega), Int.ediv_eq_zero_of_lt u0 hltv]; omega
        have e2 : ((a * 2 ^ k : Nat) : Int) % ((b * 2 ^ k : Nat) : Int) = num U := by
          rw [he, Int.add_mul_emod_self_left, Int.emod_eq_of_lt u0 hltv]
        constructor
        · rw [← e1, ← Int.natCast_ediv, Nat.mul_div_mul_right _ _ hkk]
        · rw [← e2, ← Int.natCast_emod, Nat.mul_mod_mul_right]
      have HDM := Lib.hid hdm
      clear hdm he hltv u0 q0 v0
      have hsq := hbq.sl hwQ hQl (by omega) (Nat.le_refl nq)
      have hsu := hbu.sl hwU hUl (by omega) (Nat.le_refl (n + 1))
      go_wp2_with fail
      refine (trim_sl _ _ _ Q wr hsq).mono ?_
      rintro e w8 ⟨i, rfl, hs8, rfl⟩
      go_wp2_with fail
      refine (trim_sl _ _ _ U wr hsu).mono ?_
      rintro e w8 ⟨i', rfl, hr8, rfl⟩
      rw [HDM.out.1, Int.toNat_natCast] at hs8
      rw [HDM.out.2, Int.toNat_natCast] at hr8
      have hri : i' ≤ n + 1 := hr8.cap
      by_cases hz : i' = 0
      · subst hz
        have hz0 : a % b * 2 ^ k = 0 := limbs_inj ((List.eq_nil_of_length_eq_zero hr8.len).trans limbs_zero.symm)
        have hz1 : a % b = 0 := by
          rcases Nat.mul_eq_zero.1 hz0 with h | h
          · exact h
          · exact absurd h (by simp)
        have HZ := Lib.hid hz1
        clear hz0 hz1
        go_wp2_with fail
        refine (shiftDown_far (k : Int) _ 0 _ _ (by omega) (by omega) (by omega)).mono ?_
        rintro e w9 ⟨rfl, rfl⟩
        go_wp2
        go_ret2
        refine ⟨_, _, _, _, _, _, rfl, hs8, Or.inl ⟨HZ.out, rfl⟩, fun _ => ⟨_, rfl, by have := HG.out; have := hB2.size; omega⟩, ?_⟩
        exact hB2.trans (hB.mono (by have := HG.out; have := hB2.size; omega))
      · go_wp2_with fail
        refine (shiftDown_own0 (a % b * 2 ^ k) k _ _ _ _ hr8 hk (by omega) (by omega)).mono ?_
        rintro e w9 ⟨ro, rl, rc, rfl, hr9, hgr, hw9⟩
        rw [Nat.mul_div_cancel _ (Nat.pos_of_ne_zero (by simp))] at hr9
        have hs9 := hs8.below hw9
        go_wp2
        go_ret2
        refine ⟨_, _, _, _, _, _, rfl, hs9, Or.inr ⟨ro, rfl, ?_, hr9⟩, fun _ => ⟨_, rfl, by have := HG.out; have := hB2.size; omega⟩, ?_⟩
        · have := hB2.size; have := hB.size; omega
        · exact (hB2.trans (hB.mono (by have := HG.out; have := hB2.size; omega))).trans (hw9.mono (by have := hB2.size; have := hB.size; omega))

theorem divide_new (a b : Nat) (h0 : b ≠ 0) (ao bo : Option Addr) (n m ca cb : Nat) (w : World) (ha : Sl w ao n ca (limbs a)) (hb : Sl w bo m cb (limbs b)) (hn : n ≤ 100000000) :
    Calls Tryz.prog 95 #[.slice ao n ca, .slice bo m cb] w fun e w' => ∃ qo qk qc ro rk rc, e = .returned (.tuple #[.slice qo qk qc, .slice ro rk rc]) ∧
      Sl w' qo qk qc (limbs (a / b)) ∧ Sl w' ro rk rc (limbs (a % b)) ∧ NewA w.heap.size qo qk ∧ NewA w.heap.size ro rk ∧ Below w.heap.size w w' := by
  rcases Nat.lt_or_ge a b with h | h
  · exact divideN_less a b ao bo n m ca cb w ha hb h
  · have hl := hb.len
    rcases m with _ | _ | mm
    · exfalso
      exact h0 (limbs_inj ((List.eq_nil_of_length_eq_zero hl).trans limbs_zero.symm))
    · exact divideN_limb a b ao bo n ca cb w ha hb h
    · refine (divideN_own a b ao bo n mm ca cb w ha hb h hn).mono ?_
      rintro e w' ⟨qo, qk, qc, ro, rk, rc, he, h1, h2, h3, h4⟩
      refine ⟨qo, qk, qc, ro, rk, rc, he, h1, ?_, h3, ?_, h4⟩
      · rcases h2 with ⟨hz, hk⟩ | ⟨g, hr, -, ho⟩
        · rw [hz, limbs_zero, hk]; exact Sl.empty _ _ _
        · rw [hr]; exact ho.sl
      · rcases h2 with ⟨-, hk⟩ | ⟨g, hr, hg, -⟩
        · exact fun h => absurd h (by omega)
        · exact fun _ => ⟨g, hr, hg⟩
end Go.Proofs.YthicfkeiggcjjaaGreatDoor
