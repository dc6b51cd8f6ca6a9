/- What the reference's BitLen, TrailingZeros and Abs do. -/
import Derived.Test.YtjohpdobnedilaaGreatDoorGf
import Derived.Test.YtjohpdobnedilaaGreatDoorGj
import Derived.Test.YtjohpdobnedilaaGreatDoorGa
import Derived.Deep.QuietTactic
import Derived.BigQuiet
import Derived.Deep.RegionWith
import Derived.Deep.CutRange
namespace Go.Proofs.YtjohpdobnedilaaGreatDoor
open Go.RowKit

set_option maxRecDepth 100000 in
set_option maxHeartbeats 1000000 in
theorem refBitLen_any (nb : Bool) (ao : Option Addr) (n cap : Nat) (x : Int) (w : World) (h : Bg w nb ao n cap x) :
    Calls Tryz.prog 49 #[.agg #[.bool nb, .slice ao n cap]] w fun e w' => e = .returned (.int .i64 (blen x.natAbs)) ∧ Below w.heap.size w w' := by
  obtain ⟨⟨zs, hs, hx⟩, hsm⟩ := h
  have eax : (num zs).toNat = x.natAbs := by rw [hx, sgd_natAbs hs.wf]
  clear hx
  go_enter Tryz.func49, Tryz.ntmps49
  go_wp2_with fail
  obtain ⟨W, hW, hB, hbx, hsz⟩ := box_new w nb ao n cap
  rw [← hW]
  clear hW
  have hs0 := hs.below hB
  generalize hBe : w.heap.size = B at *
  have HBe := Lib.hid hBe; clear hBe
  have k0 := hbx.c0
  have k1 := hbx.c1
  go_wp2_with fail
  refine (refTrim_any ao n cap zs W hs0).mono ?_
  rintro e w1 ⟨ro, k, rc, rfl, hs1, hk, hw1⟩
  rw [eax] at hs1
  obtain ⟨h1, z1⟩ := bnext hB (by omega) hw1
  have HH := Lib.hid h1; clear h1
  clear k0 k1 hbx hs0 hs hB hw1 eax
  obtain ⟨a, ha⟩ : ∃ a, x.natAbs = a := ⟨_, rfl⟩
  rw [ha] at hs1
  have HA := Lib.hid ha; clear ha
  rcases k with _ | m
  · have h0 : a = 0 := limbs_inj ((List.eq_nil_of_length_eq_zero hs1.len).trans limbs_zero.symm)
    go_wp2
    go_ret
    exact ⟨by rw [HA.out, h0]; rfl, by rw [HBe.out]; exact HH.out⟩
  · have hb := blen_top hs1.len
    obtain ⟨b, off, rfl, hc⟩ := hs1.cells (by rw [hs1.len]; omega)
    have c1 := hc m (by rw [hs1.len]; omega)
    clear hc
    have hxr := (Wf.limbs a).getD m
    obtain ⟨y, hy⟩ : ∃ y, (limbs a).getD m 0 = y := ⟨_, rfl⟩
    rw [hy] at c1 hxr hb
    obtain ⟨x0, x1⟩ := hxr
    clear hy
    have HB := Lib.hid hb; clear hb
    have em : ((m : Int) + 1 == 0) = false := by apply beq_eq_false_iff_ne.2; omega
    have hl : (Lib.bitLen y.toNat : Int) ≤ 32 := by
      have := bitLen_32 (x := y.toNat) (by omega)
      omega
    go_wp2_with fail
    refine (Tryz.bits_Len32 y w1 x0 (by omega)).mono ?_
    rintro e w2 ⟨rfl, rfl⟩
    go_wp2
    go_ret
    refine ⟨?_, by rw [HBe.out]; exact HH.out⟩
    rw [HA.out, ← HB.out, Int.mul_comm (m : Int) 32]
    rfl

set_option maxRecDepth 100000 in
set_option maxHeartbeats 1000000 in
theorem refTz_any (nb : Bool) (ao : Option Addr) (n cap : Nat) (x : Int) (w : World) (h : Bg w nb ao n cap x) (hT : Table w) :
    Calls Tryz.prog 51 #[.agg #[.bool nb, .slice ao n cap]] w fun e w' => e = .returned (.int .i64 (tzf x.natAbs)) ∧ Below w.heap.size w w' := by
  obtain ⟨⟨zs, hs, hx⟩, hsm⟩ := h
  have eax : (num zs).toNat = x.natAbs := by rw [hx, sgd_natAbs hs.wf]
  clear hx
  go_enter Tryz.func51, Tryz.ntmps51
  go_wp2_with fail
  obtain ⟨W, hW, hB, hbx, hsz⟩ := box_new w nb ao n cap
  rw [← hW]
  clear hW
  have hs0 := hs.below hB
  have HTW := Lib.hid (hT.below hB); clear hT
  generalize hBe : w.heap.size = B at *
  have HBe := Lib.hid hBe; clear hBe
  have k0 := hbx.c0
  have k1 := hbx.c1
  go_wp2_with fail
  refine (refTrim_any ao n cap zs W hs0).mono ?_
  rintro e w1 ⟨ro, k, rc, rfl, hs1, hk, hw1⟩
  rw [eax] at hs1
  obtain ⟨h1, z1⟩ := bnext hB (by omega) hw1
  have HH := Lib.hid h1; clear h1
  have HT := Lib.hid (HTW.out.below hw1)
  clear k0 k1 hbx hs0 hs hB hw1 eax HTW
  obtain ⟨a, ha⟩ : ∃ a, x.natAbs = a := ⟨_, rfl⟩
  rw [ha] at hs1
  have HA := Lib.hid ha; clear ha
  have hl := hs1.len
  have hkn : k ≤ 1000000000 := by omega
  have HL := Lib.hid hl; clear hl
  go_wp2
  go_loop [4] (fun i => ∃ j : Nat, j ≤ k ∧ i = .int .i64 j ∧ ∀ i, i < j → (limbs a).getD i 0 = 0) (fun i => k - (intOf i).toNat)
  case atStart => exact ⟨0, Nat.zero_le _, rfl, fun i hi => absurd hi (Nat.not_lt_zero _)⟩
  case round =>
    obtain ⟨j, hj, rfl, hz⟩ := hrel
    have HZ := Lib.hid hz; clear hz
    by_cases hlt : j < k
    · obtain ⟨b, off, rfl, hc⟩ := hs1.cells (by rw [HL.out]; omega)
      have c1 := hc j (by rw [HL.out]; omega)
      clear hc
      have hxr := (Wf.limbs a).getD j
      obtain ⟨y, hy⟩ : ∃ y, (limbs a).getD j 0 = y := ⟨_, rfl⟩
      rw [hy] at c1 hxr
      obtain ⟨x0, x1⟩ := hxr
      have HX := Lib.hid hy; clear hy
      by_cases hy : y = 0
      · subst hy
        go_wp2
        go_round
        case rel =>
          refine ⟨j + 1, by omega, by go_num, fun i hi => ?_⟩
          rcases Nat.lt_or_ge i j with h | h
          · exact HZ.out i h
          · obtain rfl : i = j := by omega
            exact HX.out
        case measure => simp [intOf] <;> omega
      · have hy0 : (y == 0) = false := beq_eq_false_iff_ne.2 hy
        have hct := ctz_lt (x := y.toNat) (by omega) (by omega)
        have hxn : ((y.toNat : Nat) : Int) = y := Int.toNat_of_nonneg x0
        have HI := Lib.hid (tz_limbs HZ.out (HX.out.trans hxn.symm) (by omega) (by omega) (by rw [HL.out]; exact hlt))
        have hz32 := tz32_any y.toNat (by omega) (by omega) w1 HT.out
        rw [hxn] at hz32
        have HTZ := Lib.hid hz32
        clear hz32 hxn hy
        generalize Lib.ctz 32 y.toNat = t at *
        go_wp2_with fail
        refine HTZ.out.mono ?_
        rintro e w2 ⟨rfl, rfl⟩
        go_wp2
        go_ret
        refine ⟨?_, by rw [HBe.out]; exact HH.out⟩
        rw [HA.out, ← tzf_of HI.out, Int.natCast_add, Int.natCast_mul, Int.mul_comm]
        rfl
    · obtain rfl : j = k := by omega
      have h0 : a = 0 := by
        rcases Nat.eq_zero_or_pos a with h | h
        · exact h
        · exfalso
          have hlow : num ((limbs a).take j) = 0 := by
            have : ∀ k, k ≤ j → num ((limbs a).take k) = 0 := by
              intro k
              induction k with
              | zero => intro _; simp [num]
              | succ k ih => intro hk; rw [num_take_succ _ _ (by rw [HL.out]; omega), ih (by omega), HZ.out k (by omega)]; simp
            exact this j (Nat.le_refl _)
          rw [List.take_of_length_le (by rw [HL.out]; exact Nat.le_refl _), num_limbs] at hlow
          omega
      have H0 := Lib.hid h0; clear h0
      go_wp2
      go_ret
      exact ⟨by rw [HA.out, H0.out, tzf_zero]; rfl, by rw [HBe.out]; exact HH.out⟩
end Go.Proofs.YtjohpdobnedilaaGreatDoor

/- What the reference's shr does: a magnitude shifted down, and whether a bit is lost. -/
namespace Go.Proofs.YtjohpdobnedilaaGreatDoor
open Go.RowKit

theorem num_take_zero_iff {zs : List Int} (h : Wf zs) (k : Nat) (hk : k < zs.length) : num (zs.take (k + 1)) = 0 ↔ num (zs.take k) = 0 ∧ zs.getD k 0 = 0 := by
  rw [num_take_succ zs k hk]
  have h1 := num_nonneg (h.take k)
  have h2 := (h.getD k).1
  have h3 := pow_pos' k
  have h4 : 0 ≤ 4294967296 ^ k * zs.getD k 0 := Int.mul_nonneg (Int.le_of_lt h3) h2
  constructor
  · intro h5
    have h6 : 4294967296 ^ k * zs.getD k 0 = 0 := by omega
    rcases Int.mul_eq_zero.1 h6 with h7 | h7 <;> omega
  · rintro ⟨h5, h6⟩
    rw [h5, h6]; simp

/-- what a shift by s limbs and k bits loses -/
theorem lost_iff {zs : List Int} (h : Wf zs) (s k : Nat) (hk : k < 32) (hs : s < zs.length) : num zs % 2 ^ (s * 32 + k) = 0 ↔ num (zs.take s) = 0 ∧ zs.getD s 0 % 2 ^ k = 0 := by
  have hp : (2 : Int) ^ (s * 32 + k) = 4294967296 ^ s * 2 ^ k := by
    have := cast2 4294967296 s k
    have e := congrArg (Nat.cast (R := Int)) (pow32 s k)
    rw [Int.natCast_pow] at e
    exact e.trans this
  have h0 := num_append (zs.take s) (zs.drop s)
  rw [List.take_append_drop, List.length_take, Nat.min_eq_left (by omega), List.drop_eq_getElem_cons hs, num, ← getD_at hs] at h0
  have h1 := num_nonneg (h.take s)
  have h2 := num_lt (h.take s)
  rw [List.length_take, Nat.min_eq_left (by omega)] at h2
  have h3 := pow_pos' s
  have h4 := two_pos k
  rw [hp, h0]
  generalize num (zs.take s) = a at *
  generalize zs.getD s 0 = z at *
  generalize num (zs.drop (s + 1)) = r at *
  obtain ⟨c, hc⟩ : ∃ c : Int, 4294967296 = 2 ^ k * c := ⟨2 ^ (32 - k), by rw [← Int.pow_add, show k + (32 - k) = 32 by omega]; rfl⟩
  have e1 : (z + 4294967296 * r) % 2 ^ k = z % 2 ^ k := by
    rw [hc, Int.mul_assoc, Int.add_mul_emod_self_left]
  rw [← e1]
  generalize (z + 4294967296 * r) = y at *
  generalize hP : (4294967296 : Int) ^ s = P at *
  have e2 : (a + P * y) % (P * 2 ^ k) = a + P * (y % 2 ^ k) := by
    have h5 := Int.mul_ediv_add_emod y (2 ^ k)
    have h6 := Int.emod_nonneg y (Int.ne_of_gt h4)
    have h7 : y % 2 ^ k + 1 ≤ 2 ^ k := Int.emod_lt_of_pos y h4
    have h8 : a + P * y = a + P * (y % 2 ^ k) + P * 2 ^ k * (y / 2 ^ k) := by
      conv => lhs; rw [← h5]
      rw [Int.mul_add, ← Int.mul_assoc]; omega
    rw [h8, Int.add_mul_emod_self_left]
    have h9 := Int.mul_le_mul_of_nonneg_left h7 (Int.le_of_lt h3)
    rw [Int.mul_add, Int.mul_one] at h9
    have h10 : 0 ≤ P * (y % 2 ^ k) := Int.mul_nonneg (Int.le_of_lt h3) h6
    exact Int.emod_eq_of_lt (by omega) (by omega)
  rw [e2]
  have h6 := Int.emod_nonneg y (Int.ne_of_gt h4)
  have h10 : 0 ≤ P * (y % 2 ^ k) := Int.mul_nonneg (Int.le_of_lt h3) h6
  constructor
  · intro h
    have h11 : P * (y % 2 ^ k) = 0 := by omega
    rcases Int.mul_eq_zero.1 h11 with h12 | h12
    · omega
    · exact ⟨by omega, h12⟩
  · rintro ⟨h11, h12⟩
    rw [h11, h12]; simp

theorem lost_far {zs : List Int} (h : Wf zs) (s k : Nat) (hs : zs.length ≤ s) : num zs % 2 ^ (s * 32 + k) = num zs := by
  have hp : (2 : Int) ^ (s * 32 + k) = 4294967296 ^ s * 2 ^ k := by
    have := cast2 4294967296 s k
    have e := congrArg (Nat.cast (R := Int)) (pow32 s k)
    rw [Int.natCast_pow] at e
    exact e.trans this
  have h1 := num_nonneg h
  have h2 := num_lt h
  have h3 : (4294967296 : Int) ^ zs.length ≤ 4294967296 ^ s := by
    obtain ⟨c, hc⟩ : ∃ c, s = zs.length + c := ⟨s - zs.length, by omega⟩
    rw [hc, Int.pow_add]
    have := Int.mul_le_mul_of_nonneg_left (show (1 : Int) ≤ 4294967296 ^ c from pow_pos' c) (Int.le_of_lt (pow_pos' zs.length))
    rwa [Int.mul_one] at this
  have h4 : (4294967296 : Int) ^ s ≤ 4294967296 ^ s * 2 ^ k := by
    have := Int.mul_le_mul_of_nonneg_left (show (1 : Int) ≤ 2 ^ k from two_pos k) (Int.le_of_lt (pow_pos' s))
    rwa [Int.mul_one] at this
  rw [hp]
  exact Int.emod_eq_of_lt h1 (by omega)

theorem or64 {y z : Int} (y0 : 0 ≤ y) (y1 : y < 4294967296) (z0 : 0 ≤ z) (z1 : z < 4294967296) : bits BinOp.or IntKind.u64 y (z * 4294967296) = y + z * 4294967296 := by
  obtain ⟨a, rfl⟩ := Int.eq_ofNat_of_zero_le y0
  obtain ⟨b, rfl⟩ := Int.eq_ofNat_of_zero_le z0
  have e := bits_or_u64_nat a (b * 4294967296) (by omega) (by omega)
  have e2 : a ||| b * 4294967296 = a + b * 4294967296 := by
    have := Nat.two_pow_add_eq_or_of_lt (i := 32) (b := a) (by omega) b
    rw [Nat.or_comm, Nat.mul_comm b, ← this]; omega
  rw [e2] at e
  rw [Int.natCast_add, Int.natCast_mul] at e
  exact e

theorem and_low {y : Int} {k : Nat} (hk : k < 32) (y0 : 0 ≤ y) (y1 : y < 4294967296) : bits BinOp.and IntKind.u32 y (2 ^ k - 1) = y % 2 ^ k := by
  obtain ⟨a, rfl⟩ := Int.eq_ofNat_of_zero_le y0
  have hp : 2 ^ k < 2 ^ 32 := Nat.pow_lt_pow_right (by omega) hk
  have hp0 : 0 < 2 ^ k := Nat.pow_pos (by omega)
  have e := bits_and_u32_nat a (2 ^ k - 1) (by omega) (by omega)
  rw [Nat.and_two_pow_sub_one_eq_mod] at e
  have e2 : ((2 ^ k - 1 : Nat) : Int) = (2 : Int) ^ k - 1 := by
    rw [Int.natCast_sub (by omega), Int.natCast_pow]; rfl
  rw [e2] at e
  rw [e, Int.natCast_emod, Int.natCast_pow]; rfl

/-- one limb of the result -/
theorem limb_out {y z : Int} {k : Nat} (hk : k < 32) (y0 : 0 ≤ y) (y1 : y < 4294967296) : (y + z * 4294967296) / 2 ^ k % 4294967296 = y / 2 ^ k + z % 2 ^ k * 2 ^ (32 - k) := by
  obtain ⟨h1, h2, h3⟩ := limb_down (z := z) hk y0 y1
  have hp2 := pow_split hk
  have hp := two_pos k
  have e1 : (y + z * 4294967296) / 2 ^ k = y / 2 ^ k + z * 2 ^ (32 - k) := by
    rw [← hp2, Int.mul_comm (2 ^ k), ← Int.mul_assoc, Int.add_mul_ediv_right _ _ (Int.ne_of_gt hp)]
  rw [e1]
  have e2 : y / 2 ^ k + z * 2 ^ (32 - k) = y / 2 ^ k + z % 2 ^ k * 2 ^ (32 - k) + 4294967296 * (z / 2 ^ k) := by
    have h5 := Int.mul_ediv_add_emod z (2 ^ k)
    have h6 : z * 2 ^ (32 - k) = (2 ^ k * (z / 2 ^ k) + z % 2 ^ k) * 2 ^ (32 - k) := by rw [h5]
    rw [h6, Int.add_mul, Int.mul_right_comm, hp2]; omega
  rw [e2, Int.add_mul_emod_self_left, Int.emod_eq_of_lt h2 h3]
theorem shr_take (k : Nat) (ds : List Int) (j : Nat) (h : j < ds.length) : (shr k ds).take j ++ [ds.getD j 0 / 2 ^ k + ds.getD (j + 1) 0 % 2 ^ k * 2 ^ (32 - k)] = (shr k ds).take (j + 1) := by
  rw [take_succ_getD _ _ (by rw [shr_length]; exact h), shr_getD k ds j h]

theorem shr_wf {k : Nat} (hk : k < 32) {ds : List Int} (h : Wf ds) : Wf (shr k ds) := by
  induction ds with
  | nil => exact h
  | cons z r ih =>
    have hz := h.head
    exact Wf.cons (limb_down (z := r.getD 0 0) hk hz.1 hz.2).2 (ih h.tail)

/-- what is lost so far -/
def lostAt (zs : List Int) (s k j : Nat) : Bool := if j = 0 then decide (num (zs.take (min s zs.length)) ≠ 0) else decide (num zs % 2 ^ (s * 32 + k) ≠ 0)

set_option maxRecDepth 100000 in
set_option maxHeartbeats 4000000 in
theorem refShr_any (zs : List Int) (s k : Nat) (ao : Option Addr) (n ca : Nat) (w : World) (ha : Sl w ao n ca zs) (hk : k < 32) (hn : n ≤ 1000000000) (hs : s ≤ 1000000000) :
    Calls Tryz.prog 128 #[.slice ao n ca, .int .i64 ((s * 32 + k : Nat) : Int)] w fun e w' => ∃ ro l cr, e = .returned (.tuple #[.slice ro l cr, .bool (decide (num zs % 2 ^ (s * 32 + k) ≠ 0))]) ∧ Sl w' ro l cr (shr k (zs.drop s)) ∧ Ext w w' := by
  have hd : ((s * 32 + k : Nat) : Int) / 32 = (s : Int) := by omega
  have hr : ((s * 32 + k : Nat) : Int) % 32 = (k : Int) := by omega
  obtain ⟨x, hx⟩ : ∃ x : Int, ((s * 32 + k : Nat) : Int) = x := ⟨_, rfl⟩
  rw [hx] at hd hr ⊢
  have hx0 : 0 ≤ x := by omega
  have hx1 : x ≤ 100000000000 := by omega
  have HX := Lib.hid hx; clear hx
  have hal := ha.len
  have HAL := Lib.hid hal; clear hal
  have hwz := ha.wf
  go_enter Tryz.func128, Tryz.ntmps128
  go_wp2
  go_loop [6, 7] (fun b i => ∃ j : Nat, j ≤ s ∧ j ≤ n ∧ i = .int .i64 j ∧ b = .bool (decide (num (zs.take j) ≠ 0))) (fun _ i => n - (intOf i).toNat)
  case atStart => exact ⟨0, Nat.zero_le _, Nat.zero_le _, rfl, by simp [num]⟩
  case round =>
    obtain ⟨j, hjs, hjn, rfl, rfl⟩ := hrel
    obtain ⟨bb, hbb⟩ : ∃ bb, decide (num (zs.take j) ≠ 0) = bb := ⟨_, rfl⟩
    rw [hbb]
    have HBB := Lib.hid hbb; clear hbb
    by_cases h12 : j < s ∧ j < n
    · obtain ⟨h1, h2⟩ := h12
      obtain ⟨b, off, rfl, hc⟩ := ha.cells (by rw [HAL.out]; omega)
      have c1 := hc j (by rw [HAL.out]; omega)
      clear hc
      have HZ := Lib.hid (num_take_zero_iff hwz j (by rw [HAL.out]; omega))
      obtain ⟨y, hy⟩ : ∃ y, zs.getD j 0 = y := ⟨_, rfl⟩
      rw [hy] at c1
      have HY := Lib.hid hy; clear hy
      cases bb with
      | true =>
        go_wp2
        go_round
        case rel =>
          refine ⟨j + 1, by omega, by omega, by go_num, ?_⟩
          have h3 := HBB.out
          have h4 := HZ.out
          simp only [decide_eq_true_eq] at h3
          rw [decide_eq_true (show num (zs.take (j + 1)) ≠ 0 from fun h5 => h3 (h4.1 h5).1)]
        case measure => simp [intOf] <;> omega
      | false =>
        go_wp2
        go_round
        case rel =>
          refine ⟨j + 1, by omega, by omega, by go_num, ?_⟩
          have h3 := HBB.out
          have h4 := HZ.out
          simp only [decide_eq_false_iff_not, Decidable.not_not] at h3
          rw [HY.out] at h4
          by_cases hy0 : y = 0
          · rw [decide_eq_false (show ¬ num (zs.take (j + 1)) ≠ 0 from fun h5 => h5 (h4.2 ⟨h3, hy0⟩)), hy0]; rfl
          · rw [decide_eq_true (show num (zs.take (j + 1)) ≠ 0 from fun h5 => hy0 (h4.1 h5).2)]; simp [hy0]
        case measure => simp [intOf] <;> omega
    · have hmin : min s zs.length = j := by rw [HAL.out]; omega
      have hbb : bb = lostAt zs s k 0 := by unfold lostAt; rw [if_pos rfl, hmin]; exact HBB.out.symm
      have HB0 := Lib.hid hbb; clear hbb
      have hex : j = s ∨ (j < s ∧ j = n) := by omega
      have hB0 := Below.refl w.heap.size w
      generalize hBe : w.heap.size = B at *
      have HBe := Lib.hid hBe; clear hBe hmin HBB
      rcases hex with hex | ⟨hex1, hex⟩
      · go_wp2
        go_loopw [6, 8, 10, 11] (fun b v i _ wr => ∃ q : Nat, (q = 0 ∨ s + q ≤ n) ∧ i = .int .i64 ((s + q : Nat) : Int) ∧ b = .bool (lostAt zs s k q) ∧ Own wr B v ((shr k (zs.drop s)).take q) ∧ Below B w wr) (fun _ _ i _ _ => n - (intOf i).toNat)
        case atStart => exact ⟨0, Or.inl rfl, by go_num, by rw [HB0.out], Own.nil _ _, hB0⟩
        case round =>
          obtain ⟨q, hq, rfl, rfl, hown, hB⟩ := hrel
          obtain ⟨L, hL⟩ : ∃ L, lostAt zs s k q = L := ⟨_, rfl⟩
          rw [hL]
          have HL := Lib.hid hL; clear hL
          by_cases hlt : s + q < n
          · have hAT := (ha.below (by rw [HBe.out]; exact hB)).cells
            obtain ⟨b, off, e0, hc⟩ := hAT (by rw [HAL.out]; omega)
            subst e0
            have c1 := hc (s + q) (by rw [HAL.out]; omega)
            have c2 := fun h => hc (s + q + 1) h
            have C2 := Lib.hid c2
            clear hc hAT c2
            obtain ⟨y, hy⟩ : ∃ y, zs.getD (s + q) 0 = y := ⟨_, rfl⟩
            have hyr := hwz.getD (s + q)
            rw [hy] at c1 hyr
            obtain ⟨y0, y1⟩ := hyr
            have HY := Lib.hid hy; clear hy
            obtain ⟨z, hz⟩ : ∃ z, zs.getD (s + q + 1) 0 = z := ⟨_, rfl⟩
            have hzr := hwz.getD (s + q + 1)
            rw [hz] at hzr
            obtain ⟨z0, z1⟩ := hzr
            have hdl : q < (zs.drop s).length := by rw [List.length_drop, HAL.out]; omega
            have hshr := shr_take k (zs.drop s) q hdl
            have hgd : ∀ i, (zs.drop s).getD i 0 = zs.getD (s + i) 0 := fun i => by simp [List.getD, List.getElem?_drop]
            rw [hgd, hgd, ← Nat.add_assoc] at hshr
            have OUT := Lib.hid hshr
            have hlost := lost_iff hwz s k hk (by rw [HAL.out]; omega)
            have HLOST := Lib.hid hlost
            have hand := and_low hk y0 y1
            have hpk : ((2 : Int) ^ k - 1) % 4294967296 = 2 ^ k - 1 := by
              have h1 := two_pos k
              have h2 := Int.pow_lt_pow_of_lt (show (1 : Int) < 2 by omega) hk
              have h3 : (2 : Int) ^ 32 = 4294967296 := rfl
              exact Int.emod_eq_of_lt (by omega) (by omega)
            have HAND := Lib.hid (show bits BinOp.and IntKind.u32 y ((2 ^ k - 1) % 4294967296) = y % 2 ^ k by rw [hpk]; exact hand)
            clear hdl hshr hgd hlost hand hpk
            by_cases hnx : s + q + 1 < n
            · have c2 := C2.out (by rw [HAL.out]; omega)
              rw [hz] at c2
              have HZ := Lib.hid hz; clear hz C2
              go_wp2
              by_cases hq0 : q = 0
              · have hgw : IntKind.i64.wrap (x.tdiv 32) = (s : Int) := by
                  rw [Int.tdiv_eq_ediv_of_nonneg hx0, hd]; exact IntWalk.i64_in _ ⟨by omega, by omega⟩
                have hg : ((s : Int) == IntKind.i64.wrap (x.tdiv 32)) = true := by rw [hgw]; simp
                have hg2 : ((s : Int) + (q : Int) == IntKind.i64.wrap (x.tdiv 32)) = true := by rw [hgw]; simp [hq0]
                clear hgw
                have hix : (s : Int) < (n : Int) := by omega
                have c1s : wr.cell? ⟨b, off + s, none⟩ = some (.int .u32 y) := by
                  have := c1
                  rwa [hq0] at this
                go_quiet (fail)
                by_cases hy2 : y % 2 ^ k = 0
                · have hbit : (bits BinOp.and IntKind.u32 y ((2 ^ k - 1) % 4294967296) != 0) = false := by rw [HAND.out, hy2]; rfl
                  have hownq : Own (wr.drewN nq) B _ ((shr k (zs.drop s)).take q) := hown
                  have hBq : Below B w (wr.drewN nq) := below_drewN hB nq
                  have hszq : B ≤ (wr.drewN nq).heap.size := by have := hBq.size; have := HBe.out; omega
                  have hlq : ((shr k (zs.drop s)).take q).length ≤ 1099511627776 := by rw [List.length_take]; omega
                  have HOWN := Lib.hid hownq
                  have HSZ := Lib.hid hszq
                  have HLQ := Lib.hid hlq
                  clear hownq hszq hlq hown
                  generalize wr.drewN nq = wq at *
                  go_wp2_with (at_builtin; refine wpList_append_u32 _ rfl (.tmp 76) (.tmp 81) rfl B _ ((shr k (zs.drop s)).take q) _ rfl rfl HOWN.out HSZ.out HLQ.out ?_)
                  intro v' w1 hown' hB1
                  go_wp2
                  go_roundw
                  case rel =>
                    refine ⟨q + 1, Or.inr (by omega), by go_num, ?_, ?_, hBq.trans hB1⟩
                    · unfold lostAt; rw [if_neg (by omega), ← HL.out]
                      unfold lostAt; rw [if_pos hq0, show min s zs.length = s by rw [HAL.out]; omega]
                      have h5 : zs.getD s 0 % 2 ^ k = 0 := by have := HY.out; rw [hq0] at this; rw [show zs.getD s 0 = y from this]; exact hy2
                      congr 1
                      rw [decide_eq_decide]
                      constructor
                      · intro h6 h7; exact h6 (HLOST.out.1 h7).1
                      · intro h6 h7; exact h6 (HLOST.out.2 ⟨h7, h5⟩)
                    · rw [or64 y0 y1 z0 z1, limb_out hk y0 y1, ← HY.out, ← HZ.out] at hown'; first | (rw [OUT.out] at hown'; exact hown') | (have h9 := OUT.out; simp only [hq0, List.take_zero, List.nil_append, Nat.add_zero, Nat.zero_add] at h9 hown' ⊢; rw [h9] at hown'; exact hown')
                  case measure => simp [intOf] <;> omega
                · have hbit : (bits BinOp.and IntKind.u32 y ((2 ^ k - 1) % 4294967296) != 0) = true := by rw [HAND.out]; simpa using hy2
                  have hownq : Own (wr.drewN nq) B _ ((shr k (zs.drop s)).take q) := hown
                  have hBq : Below B w (wr.drewN nq) := below_drewN hB nq
                  have hszq : B ≤ (wr.drewN nq).heap.size := by have := hBq.size; have := HBe.out; omega
                  have hlq : ((shr k (zs.drop s)).take q).length ≤ 1099511627776 := by rw [List.length_take]; omega
                  have HOWN := Lib.hid hownq
                  have HSZ := Lib.hid hszq
                  have HLQ := Lib.hid hlq
                  clear hownq hszq hlq hown
                  generalize wr.drewN nq = wq at *
                  go_wp2_with (at_builtin; refine wpList_append_u32 _ rfl (.tmp 76) (.tmp 81) rfl B _ ((shr k (zs.drop s)).take q) _ rfl rfl HOWN.out HSZ.out HLQ.out ?_)
                  intro v' w1 hown' hB1
                  go_wp2
                  go_roundw
                  case rel =>
                    refine ⟨q + 1, Or.inr (by omega), by go_num, ?_, ?_, hBq.trans hB1⟩
                    · have h5 : ¬ num zs % 2 ^ (s * 32 + k) = 0 := fun h => hy2 (by rw [← HY.out, hq0]; exact (HLOST.out.1 h).2)
                      unfold lostAt; rw [if_neg (by omega), decide_eq_true h5]
                    · rw [or64 y0 y1 z0 z1, limb_out hk y0 y1, ← HY.out, ← HZ.out] at hown'; first | (rw [OUT.out] at hown'; exact hown') | (have h9 := OUT.out; simp only [hq0, List.take_zero, List.nil_append, Nat.add_zero, Nat.zero_add] at h9 hown' ⊢; rw [h9] at hown'; exact hown')
                  case measure => simp [intOf] <;> omega
              · have hg2 : ((s : Int) + (q : Int) == (s : Int)) = false := by simp; omega
                have hg3 : decide ((s : Int) + (q : Int) = (s : Int)) = false := by simp; omega
                go_quiet (fail)
                have hownq : Own (wr.drewN nq) B _ ((shr k (zs.drop s)).take q) := hown
                have hBq : Below B w (wr.drewN nq) := below_drewN hB nq
                have hszq : B ≤ (wr.drewN nq).heap.size := by have := hBq.size; have := HBe.out; omega
                have hlq : ((shr k (zs.drop s)).take q).length ≤ 1099511627776 := by rw [List.length_take]; omega
                have HOWN := Lib.hid hownq
                have HSZ := Lib.hid hszq
                have HLQ := Lib.hid hlq
                clear hownq hszq hlq hown
                generalize wr.drewN nq = wq at *
                go_wp2_with (at_builtin; refine wpList_append_u32 _ rfl (.tmp 76) (.tmp 81) rfl B _ ((shr k (zs.drop s)).take q) _ rfl rfl HOWN.out HSZ.out HLQ.out ?_)
                intro v' w1 hown' hB1
                go_wp2
                go_roundw
                case rel =>
                  refine ⟨q + 1, Or.inr (by omega), by go_num, ?_, ?_, hBq.trans hB1⟩
                  · rw [← HL.out]; unfold lostAt; rw [if_neg hq0, if_neg (Nat.succ_ne_zero q)]
                  · rw [or64 y0 y1 z0 z1, limb_out hk y0 y1, ← HY.out, ← HZ.out] at hown'; first | (rw [OUT.out] at hown'; exact hown') | (have h9 := OUT.out; simp only [hq0, List.take_zero, List.nil_append, Nat.add_zero, Nat.zero_add] at h9 hown' ⊢; rw [h9] at hown'; exact hown')
                case measure => simp [intOf] <;> omega
            · have hz0 : z = 0 := by
                rw [← hz]
                simp only [List.getD]
                rw [List.getElem?_eq_none (by rw [HAL.out]; omega)]; rfl
              have HZ := Lib.hid hz; clear hz C2
              have OUT2 := Lib.hid (show y / 2 ^ k % 4294967296 = y / 2 ^ k + z % 2 ^ k * 2 ^ (32 - k) by rw [← limb_out hk y0 y1, hz0]; simp)
              go_wp2
              by_cases hq0 : q = 0
              · have hgw : IntKind.i64.wrap (x.tdiv 32) = (s : Int) := by
                  rw [Int.tdiv_eq_ediv_of_nonneg hx0, hd]; exact IntWalk.i64_in _ ⟨by omega, by omega⟩
                have hg : ((s : Int) == IntKind.i64.wrap (x.tdiv 32)) = true := by rw [hgw]; simp
                have hg2 : ((s : Int) + (q : Int) == IntKind.i64.wrap (x.tdiv 32)) = true := by rw [hgw]; simp [hq0]
                clear hgw
                have hix : (s : Int) < (n : Int) := by omega
                have c1s : wr.cell? ⟨b, off + s, none⟩ = some (.int .u32 y) := by
                  have := c1
                  rwa [hq0] at this
                go_quiet (fail)
                by_cases hy2 : y % 2 ^ k = 0
                · have hbit : (bits BinOp.and IntKind.u32 y ((2 ^ k - 1) % 4294967296) != 0) = false := by rw [HAND.out, hy2]; rfl
                  have hownq : Own (wr.drewN nq) B _ ((shr k (zs.drop s)).take q) := hown
                  have hBq : Below B w (wr.drewN nq) := below_drewN hB nq
                  have hszq : B ≤ (wr.drewN nq).heap.size := by have := hBq.size; have := HBe.out; omega
                  have hlq : ((shr k (zs.drop s)).take q).length ≤ 1099511627776 := by rw [List.length_take]; omega
                  have HOWN := Lib.hid hownq
                  have HSZ := Lib.hid hszq
                  have HLQ := Lib.hid hlq
                  clear hownq hszq hlq hown
                  generalize wr.drewN nq = wq at *
                  go_wp2_with (at_builtin; refine wpList_append_u32 _ rfl (.tmp 76) (.tmp 81) rfl B _ ((shr k (zs.drop s)).take q) _ rfl rfl HOWN.out HSZ.out HLQ.out ?_)
                  intro v' w1 hown' hB1
                  go_wp2
                  go_roundw
                  case rel =>
                    refine ⟨q + 1, Or.inr (by omega), by go_num, ?_, ?_, hBq.trans hB1⟩
                    · unfold lostAt; rw [if_neg (by omega), ← HL.out]
                      unfold lostAt; rw [if_pos hq0, show min s zs.length = s by rw [HAL.out]; omega]
                      have h5 : zs.getD s 0 % 2 ^ k = 0 := by have := HY.out; rw [hq0] at this; rw [show zs.getD s 0 = y from this]; exact hy2
                      congr 1
                      rw [decide_eq_decide]
                      constructor
                      · intro h6 h7; exact h6 (HLOST.out.1 h7).1
                      · intro h6 h7; exact h6 (HLOST.out.2 ⟨h7, h5⟩)
                    · rw [OUT2.out, ← HY.out, ← HZ.out] at hown'; first | (rw [OUT.out] at hown'; exact hown') | (have h9 := OUT.out; simp only [hq0, List.take_zero, List.nil_append, Nat.add_zero, Nat.zero_add] at h9 hown' ⊢; rw [h9] at hown'; exact hown')
                  case measure => simp [intOf] <;> omega
                · have hbit : (bits BinOp.and IntKind.u32 y ((2 ^ k - 1) % 4294967296) != 0) = true := by rw [HAND.out]; simpa using hy2
                  have hownq : Own (wr.drewN nq) B _ ((shr k (zs.drop s)).take q) := hown
                  have hBq : Below B w (wr.drewN nq) := below_drewN hB nq
                  have hszq : B ≤ (wr.drewN nq).heap.size := by have := hBq.size; have := HBe.out; omega
                  have hlq : ((shr k (zs.drop s)).take q).length ≤ 1099511627776 := by rw [List.length_take]; omega
                  have HOWN := Lib.hid hownq
                  have HSZ := Lib.hid hszq
                  have HLQ := Lib.hid hlq
                  clear hownq hszq hlq hown
                  generalize wr.drewN nq = wq at *
                  go_wp2_with (at_builtin; refine wpList_append_u32 _ rfl (.tmp 76) (.tmp 81) rfl B _ ((shr k (zs.drop s)).take q) _ rfl rfl HOWN.out HSZ.out HLQ.out ?_)
                  intro v' w1 hown' hB1
                  go_wp2
                  go_roundw
                  case rel =>
                    refine ⟨q + 1, Or.inr (by omega), by go_num, ?_, ?_, hBq.trans hB1⟩
                    · have h5 : ¬ num zs % 2 ^ (s * 32 + k) = 0 := fun h => hy2 (by rw [← HY.out, hq0]; exact (HLOST.out.1 h).2)
                      unfold lostAt; rw [if_neg (by omega), decide_eq_true h5]
                    · rw [OUT2.out, ← HY.out, ← HZ.out] at hown'; first | (rw [OUT.out] at hown'; exact hown') | (have h9 := OUT.out; simp only [hq0, List.take_zero, List.nil_append, Nat.add_zero, Nat.zero_add] at h9 hown' ⊢; rw [h9] at hown'; exact hown')
                  case measure => simp [intOf] <;> omega
              · have hg2 : ((s : Int) + (q : Int) == (s : Int)) = false := by simp; omega
                have hg3 : decide ((s : Int) + (q : Int) = (s : Int)) = false := by simp; omega
                go_quiet (fail)
                have hownq : Own (wr.drewN nq) B _ ((shr k (zs.drop s)).take q) := hown
                have hBq : Below B w (wr.drewN nq) := below_drewN hB nq
                have hszq : B ≤ (wr.drewN nq).heap.size := by have := hBq.size; have := HBe.out; omega
                have hlq : ((shr k (zs.drop s)).take q).length ≤ 1099511627776 := by rw [List.length_take]; omega
                have HOWN := Lib.hid hownq
                have HSZ := Lib.hid hszq
                have HLQ := Lib.hid hlq
                clear hownq hszq hlq hown
                generalize wr.drewN nq = wq at *
                go_wp2_with (at_builtin; refine wpList_append_u32 _ rfl (.tmp 76) (.tmp 81) rfl B _ ((shr k (zs.drop s)).take q) _ rfl rfl HOWN.out HSZ.out HLQ.out ?_)
                intro v' w1 hown' hB1
                go_wp2
                go_roundw
                case rel =>
                  refine ⟨q + 1, Or.inr (by omega), by go_num, ?_, ?_, hBq.trans hB1⟩
                  · rw [← HL.out]; unfold lostAt; rw [if_neg hq0, if_neg (Nat.succ_ne_zero q)]
                  · rw [OUT2.out, ← HY.out, ← HZ.out] at hown'; first | (rw [OUT.out] at hown'; exact hown') | (have h9 := OUT.out; simp only [hq0, List.take_zero, List.nil_append, Nat.add_zero, Nat.zero_add] at h9 hown' ⊢; rw [h9] at hown'; exact hown')
                case measure => simp [intOf] <;> omega
          · have hsn : (shr k (zs.drop s)).length ≤ q := by rw [shr_length, List.length_drop, HAL.out]; omega
            rw [List.take_of_length_le hsn] at hown
            have hwf := shr_wf hk (hwz.drop s)
            have hll : (shr k (zs.drop s)).length ≤ 1099511627776 := by rw [shr_length, List.length_drop, HAL.out]; omega
            obtain ⟨ro, rc, rfl, hsl⟩ := hown.sl hwf hll
            have hfin : L = decide (num zs % 2 ^ (s * 32 + k) ≠ 0) := by
              rw [← HL.out]
              unfold lostAt
              by_cases hq0 : q = 0
              · rw [if_pos hq0]
                rw [Nat.min_eq_right (by rw [HAL.out]; omega), List.take_length, lost_far hwz s k (by rw [HAL.out]; omega)]
              · rw [if_neg hq0]
            have HF := Lib.hid hfin
            have HSL := Lib.hid hsl
            clear hfin hsl hown hwf hsn
            go_wp2
            go_ret2
            exact ⟨ro, _, rc, by rw [HF.out]; rfl, HSL.out, by rw [Ext, HBe.out]; exact hB⟩
      · go_wp2
        go_loopw [6, 8, 10, 11] (fun b v i _ wr => ∃ q : Nat, (q = 0 ∨ s + q ≤ n) ∧ i = .int .i64 ((s + q : Nat) : Int) ∧ b = .bool (lostAt zs s k q) ∧ Own wr B v ((shr k (zs.drop s)).take q) ∧ Below B w wr) (fun _ _ i _ _ => n - (intOf i).toNat)
        case atStart => exact ⟨0, Or.inl rfl, by go_num, by rw [HB0.out], Own.nil _ _, hB0⟩
        case round =>
          obtain ⟨q, hq, rfl, rfl, hown, hB⟩ := hrel
          obtain ⟨L, hL⟩ : ∃ L, lostAt zs s k q = L := ⟨_, rfl⟩
          rw [hL]
          have HL := Lib.hid hL; clear hL
          by_cases hlt : s + q < n
          · exfalso; omega
          · have hsn : (shr k (zs.drop s)).length ≤ q := by rw [shr_length, List.length_drop, HAL.out]; omega
            rw [List.take_of_length_le hsn] at hown
            have hwf := shr_wf hk (hwz.drop s)
            have hll : (shr k (zs.drop s)).length ≤ 1099511627776 := by rw [shr_length, List.length_drop, HAL.out]; omega
            obtain ⟨ro, rc, rfl, hsl⟩ := hown.sl hwf hll
            have hfin : L = decide (num zs % 2 ^ (s * 32 + k) ≠ 0) := by
              rw [← HL.out]
              unfold lostAt
              by_cases hq0 : q = 0
              · rw [if_pos hq0]
                rw [Nat.min_eq_right (by rw [HAL.out]; omega), List.take_length, lost_far hwz s k (by rw [HAL.out]; omega)]
              · rw [if_neg hq0]
            have HF := Lib.hid hfin
            have HSL := Lib.hid hsl
            clear hfin hsl hown hwf hsn
            go_wp2
            go_ret2
            exact ⟨ro, _, rc, by rw [HF.out]; rfl, HSL.out, by rw [Ext, HBe.out]; exact hB⟩

end Go.Proofs.YtjohpdobnedilaaGreatDoor

/- What the reference's shl does: a magnitude shifted up. -/
namespace Go.Proofs.YtjohpdobnedilaaGreatDoor
open Go.RowKit

theorem Own.of_blk {w : World} {B g : Nat} {L : List Int} (h : Blk w g L) (hB : B ≤ g) (hn : L.length ≤ 1099511627776) : Own w B (.slice (some ⟨g, 0, none⟩) L.length L.length) L := by
  refine ⟨by simp, Or.inr ⟨g, L.length, _, rfl, hB, h, Nat.le_refl _, by unfold maxLen; omega, by simp, ?_⟩⟩
  simp only [Nat.mul_one]
  exact List.take_of_length_le (by simp)

theorem or_low64 {z q : Int} {k : Nat} (hk : k < 32) (z0 : 0 ≤ z) (z1 : z < 2 ^ k) (q0 : 0 ≤ q) (q1 : q < 4294967296) : bits BinOp.or IntKind.u64 z (q * 2 ^ k) = z + q * 2 ^ k ∧ 0 ≤ z + q * 2 ^ k ∧ z + q * 2 ^ k < 4294967296 * 2 ^ k := by
  obtain ⟨a, rfl⟩ := Int.eq_ofNat_of_zero_le z0
  obtain ⟨b, rfl⟩ := Int.eq_ofNat_of_zero_le q0
  have hp := two_pos k
  have h1 : a < 2 ^ k := by
    have : ((a : Nat) : Int) < ((2 ^ k : Nat) : Int) := by rw [Int.natCast_pow]; exact z1
    exact Int.ofNat_lt.1 this
  have h3 : 2 ^ k < 2 ^ 32 := Nat.pow_lt_pow_right (by omega) hk
  have h2 : b * 2 ^ k < 18446744073709551616 := by
    have : b * 2 ^ k < 4294967296 * 2 ^ 32 := Nat.mul_lt_mul'' (by omega) h3
    exact this
  have e := bits_or_u64_nat a (b * 2 ^ k) (by omega) h2
  have e2 : a ||| b * 2 ^ k = a + b * 2 ^ k := by
    have := Nat.two_pow_add_eq_or_of_lt h1 b
    rw [Nat.or_comm, Nat.mul_comm b, ← this]; omega
  rw [e2, Int.natCast_add, Int.natCast_mul, Int.natCast_pow] at e
  refine ⟨e, ?_, ?_⟩
  · have := Int.mul_nonneg q0 (Int.le_of_lt hp); omega
  · have := Int.mul_le_mul_of_nonneg_right (show (b : Int) + 1 ≤ 4294967296 by omega) (Int.le_of_lt hp)
    rw [Int.add_mul, Int.one_mul] at this
    omega

theorem wrap_shl64 {q : Int} {k : Nat} (hk : k < 32) (q0 : 0 ≤ q) (q1 : q < 4294967296) : IntKind.u64.wrap (q * 2 ^ k) = q * 2 ^ k := by
  have hp := two_pos k
  have h0 := Int.mul_nonneg q0 (Int.le_of_lt hp)
  have h1 := Int.mul_lt_mul_of_pos_right q1 hp
  have h2 : (4294967296 : Int) * 2 ^ k ≤ 18446744073709551616 := by
    have h3 := Int.pow_lt_pow_of_lt (show (1 : Int) < 2 by omega) hk
    have h4 : (2 : Int) ^ 32 = 4294967296 := rfl
    omega
  rw [IntKind.wrap_u64]
  exact Int.emod_eq_of_lt h0 (by omega)

/-- q limbs are shifted, c goes over -/
def ShlAt (zs : List Int) (k q : Nat) (L : List Int) (c : Int) : Prop := L.length = q ∧ Wf L ∧ 0 ≤ c ∧ c < 2 ^ k ∧ num L + 4294967296 ^ q * c = num (zs.take q) * 2 ^ k

theorem ShlAt.step {zs L : List Int} {k q : Nat} {c t : Int} (h : ShlAt zs k q L c) (hq : q < zs.length) (ht : t = c + zs.getD q 0 * 2 ^ k) (t0 : 0 ≤ t) (t1 : t < 4294967296 * 2 ^ k) : ShlAt zs k (q + 1) (L ++ [t % 4294967296]) (t / 4294967296) := by
  obtain ⟨h1, h2, h3, h4, h5⟩ := h
  refine ⟨by simp [h1], h2.append (Wf.cons ⟨by omega, by omega⟩ Wf.nil), by omega, by omega, ?_⟩
  rw [num_append, h1, num_take_succ zs q hq, Int.pow_succ]
  simp only [num]
  have e : t % 4294967296 + 4294967296 * (t / 4294967296) = t := by omega
  have e2 : (4294967296 : Int) ^ q * (t % 4294967296) + 4294967296 ^ q * 4294967296 * (t / 4294967296) = 4294967296 ^ q * t := by
    rw [Int.mul_assoc, ← Int.mul_add, e]
  have e3 : (4294967296 : Int) ^ q * t = 4294967296 ^ q * c + 4294967296 ^ q * zs.getD q 0 * 2 ^ k := by rw [ht, Int.mul_add, ← Int.mul_assoc]
  rw [Int.add_mul]
  simp only [Int.mul_zero, Int.add_zero]
  omega

set_option maxRecDepth 100000 in
set_option maxHeartbeats 2000000 in
theorem refShl_any (zs : List Int) (s k : Nat) (ao : Option Addr) (n ca : Nat) (w : World) (ha : Sl w ao n ca zs) (hk : k < 32) (hn : n ≤ 1000000000) (hs : s ≤ 1000000000) :
    Calls Tryz.prog 127 #[.slice ao n ca, .int .i64 ((s * 32 + k : Nat) : Int)] w fun e w' => ∃ ro l cr L, e = .returned (.slice ro l cr) ∧ Sl w' ro l cr L ∧ num L = num zs * 4294967296 ^ s * 2 ^ k ∧ l = s + n + 1 ∧ Ext w w' := by
  have hd : ((s * 32 + k : Nat) : Int) / 32 = (s : Int) := by omega
  have hr : ((s * 32 + k : Nat) : Int) % 32 = (k : Int) := by omega
  obtain ⟨x, hx⟩ : ∃ x : Int, ((s * 32 + k : Nat) : Int) = x := ⟨_, rfl⟩
  rw [hx] at hd hr ⊢
  have hx0 : 0 ≤ x := by omega
  have hx1 : x ≤ 100000000000 := by omega
  have HX := Lib.hid hx; clear hx
  have hal := ha.len
  have HAL := Lib.hid hal; clear hal
  have hwz := ha.wf
  go_enter Tryz.func127, Tryz.ntmps127
  go_wp2_with (refine wpList_make_u32 _ rfl _ _ rfl _ s rfl rfl (by omega) (by omega) ?_)
  intro w1 hb1 hw1
  have hown0 := Own.of_blk hb1 (Nat.le_refl _) (by simp; omega)
  simp only [List.length_replicate] at hown0
  generalize hBe : w.heap.size = B at *
  have HBe := Lib.hid hBe; clear hBe hb1
  go_wp2
  go_loopw [5, 6, 7] (fun v c i wr => ∃ (q : Nat) (L : List Int) (cc : Int), q ≤ n ∧ i = .int .i64 q ∧ c = .int .u64 cc ∧ ShlAt zs k q L cc ∧ Own wr B v (List.replicate s 0 ++ L) ∧ Below B w wr) (fun _ _ i _ => n - (intOf i).toNat)
  case atStart => exact ⟨0, [], 0, Nat.zero_le _, rfl, rfl, ⟨rfl, Wf.nil, Int.le_refl _, two_pos k, by simp [num]⟩, by simpa using hown0, hw1⟩
  case round =>
    obtain ⟨q, L, cc, hq, rfl, rfl, hsh, hown, hB⟩ := hrel
    have hlen : (List.replicate s (0 : Int) ++ L).length = s + q := by rw [List.length_append, List.length_replicate, hsh.1]
    have hc0 := hsh.2.2.1
    have hc1 := hsh.2.2.2.1
    have HSH := Lib.hid hsh; clear hsh
    have hszq : B ≤ wr.heap.size := by have := hB.size; have := HBe.out; omega
    have HSZ := Lib.hid hszq; clear hszq
    have hlq : (List.replicate s (0 : Int) ++ L).length ≤ 1099511627776 := by omega
    have HLQ := Lib.hid hlq; clear hlq
    have HLEN := Lib.hid hlen; clear hlen
    by_cases hlt : q < n
    · obtain ⟨b, off, e0, hc⟩ := (ha.below (by rw [HBe.out]; exact hB)).cells (by rw [HAL.out]; omega)
      subst e0
      have c1 := hc q (by rw [HAL.out]; omega)
      clear hc
      obtain ⟨y, hy⟩ : ∃ y, zs.getD q 0 = y := ⟨_, rfl⟩
      have hyr := hwz.getD q
      rw [hy] at c1 hyr
      obtain ⟨y0, y1⟩ := hyr
      have HY := Lib.hid hy; clear hy
      have hor := or_low64 hk hc0 hc1 y0 y1
      have HOR := Lib.hid hor
      have HWR := Lib.hid (wrap_shl64 hk y0 y1)
      clear hor
      go_wp2_with (at_builtin; refine wpList_append_u32 _ rfl (.tmp 27) (.tmp 30) rfl B _ (List.replicate s 0 ++ L) _ rfl rfl hown HSZ.out HLQ.out ?_)
      intro v' w2 hown' hB1
      go_wp2
      go_roundw
      case rel =>
        rw [HWR.out, HOR.out.1] at hown' ⊢
        have h1 := HSH.out.step (by rw [HAL.out]; exact hlt) (t := cc + y * 2 ^ k) (by rw [HY.out]) HOR.out.2.1 HOR.out.2.2
        exact ⟨q + 1, _, _, by omega, by go_num, rfl, h1, hown', hB.trans hB1⟩
      case measure => simp [intOf] <;> omega
    · obtain rfl : q = n := by omega
      go_wp2_with (at_builtin; refine wpList_append_u32 _ rfl (.tmp 34) (.tmp 37) rfl B _ (List.replicate s 0 ++ L) _ rfl rfl hown HSZ.out HLQ.out ?_)
      intro v' w2 hown' hB1
      have hcc : cc % 4294967296 = cc := by
        have h3 := Int.pow_lt_pow_of_lt (show (1 : Int) < 2 by omega) hk
        have h4 : (2 : Int) ^ 32 = 4294967296 := rfl
        exact Int.emod_eq_of_lt hc0 (by omega)
      rw [hcc] at hown'
      have hwf : Wf (List.replicate s 0 ++ (L ++ [cc])) := (Wf.replicate s).append (HSH.out.2.1.append (Wf.cons ⟨hc0, by omega⟩ Wf.nil))
      have hll : (List.replicate s (0 : Int) ++ (L ++ [cc])).length = s + q + 1 := by
        rw [List.length_append, List.length_append, List.length_replicate, HSH.out.1]; rfl
      have hnum : num (List.replicate s 0 ++ (L ++ [cc])) = num zs * 4294967296 ^ s * 2 ^ k := by
        have h5 := HSH.out.2.2.2.2
        rw [List.take_of_length_le (by rw [HAL.out]; exact Nat.le_refl _)] at h5
        rw [num_append, num_append, num_replicate, List.length_replicate, HSH.out.1]
        simp only [num]
        rw [Int.mul_zero, Int.add_zero, h5, Int.zero_add, Int.mul_comm (num zs), ← Int.mul_assoc, Int.mul_comm (num zs), Int.mul_right_comm, Int.mul_assoc]
      obtain ⟨ro, rc, rfl, hsl⟩ := hown'.sl hwf (by rw [hll]; omega)
      have HSL := Lib.hid hsl
      have HNUM := Lib.hid hnum
      have HLL := Lib.hid hll
      clear hsl hnum hown' hwf hll
      go_wp2
      go_ret
      exact ⟨ro, _, rc, _, rfl, HSL.out, HNUM.out, HLL.out, by rw [Ext, HBe.out]; exact hB.trans hB1⟩
end Go.Proofs.YtjohpdobnedilaaGreatDoor

/- What the reference's Abs and Shift do (shifts of numbers that are not negative, and all shifts up). -/
namespace Go.Proofs.YtjohpdobnedilaaGreatDoor
open Go.RowKit

theorem bn_abs {w : World} {nr : Bool} {ro : Option Addr} {k rc : Nat} {zs : List Int} {x : Int} {nb : Bool} (hx : x = sgd nb zs) (hz : Wf zs) (h : Bn w nr ro k rc (sgd false zs)) : Bn w nr ro k rc x.natAbs := by
  have e : (x.natAbs : Int) = sgd false zs := by
    rw [hx, sgd_natAbs hz, Int.toNat_of_nonneg (num_nonneg hz)]; rfl
  rw [e]; exact h

set_option maxRecDepth 100000 in
set_option maxHeartbeats 1000000 in
theorem refAbs_any (nb : Bool) (ao : Option Addr) (n cap : Nat) (x : Int) (w : World) (h : Bg w nb ao n cap x) :
    Calls Tryz.prog 103 #[.agg #[.bool nb, .slice ao n cap]] w fun e w' => ∃ nr ro k cr, e = .returned (.agg #[.bool nr, .slice ro k cr]) ∧ Bn w' nr ro k cr x.natAbs ∧ k ≤ n ∧ Below w.heap.size w w' := by
  obtain ⟨⟨zs, hs, hx⟩, hsm⟩ := h
  have HX := Lib.hid hx; clear hx
  go_enter Tryz.func103, Tryz.ntmps103
  go_wp2_with fail
  obtain ⟨W, hW, hB, hbx, hrx, hz⟩ := boxes1 w nb ao n cap
  rw [← hW]
  clear hW
  have hs0 := hs.below hB
  generalize hBe : w.heap.size = B at *
  have HBe := Lib.hid hBe; clear hBe
  have k0 := hbx.c0
  have k1 := hbx.c1
  go_wp2_with fail
  refine (make1_any false ao n cap zs W hs0).mono ?_
  rintro e w1 ⟨nr, ro, k, rc, rfl, hs1, hk, hw1⟩
  have b1 := hrx.below hw1
  obtain ⟨h1, z1⟩ := bnext hB (by omega) hw1
  have q0 := b1.c0
  have q1 := b1.c1
  have q2 := b1.f 0
  have q3 := b1.f 1
  have hst := b1.stored nr ro k rc
  have u0 := hst.c0
  have u1 := hst.c1
  have hres : Bn ((w1.setCell ⟨B + 1, 0, none⟩ (.bool nr)).setCell ⟨B + 1, 1, none⟩ (.slice ro k rc)) nr ro k rc x.natAbs := bn_abs HX.out hs.wf ⟨hs1.neg, hs1.sl.only_box b1 (only_set2 _ _ _ _)⟩
  have hbl := h1.trans ((only_set2 w1 (B + 1) (.bool nr) (.slice ro k rc)).below (Nat.le_succ B))
  have HRES := Lib.hid hres; clear hres
  go_wp2
  refine bodyPost_ret (v := .agg #[.bool nr, .slice ro k rc]) (by simp [results, Tryz.results103, go_sem, u0, u1]) rfl ⟨_, ro, k, rc, rfl, HRES.out, hk, ?_⟩
  rw [HBe.out]; exact hbl

theorem pow32i (s k : Nat) : (2 : Int) ^ (s * 32 + k) = 4294967296 ^ s * 2 ^ k := by
  have := cast2 4294967296 s k
  have e := congrArg (Nat.cast (R := Int)) (pow32 s k)
  rw [Int.natCast_pow] at e
  exact e.trans this

/-- a magnitude shifted up -/
theorem refShl_num (a e : Nat) (ao : Option Addr) (n ca : Nat) (w : World) (ha : Sl w ao n ca (limbs a)) (hn : n ≤ 1000000000) (he : e ≤ 30000000000) :
    Calls Tryz.prog 127 #[.slice ao n ca, .int .i64 (e : Int)] w fun r w' => ∃ ro l cr L, r = .returned (.slice ro l cr) ∧ Sl w' ro l cr L ∧ num L = ((a * 2 ^ e : Nat) : Int) ∧ l = e / 32 + n + 1 ∧ Ext w w' := by
  have h := refShl_any (limbs a) (e / 32) (e % 32) ao n ca w ha (by omega) hn (by omega)
  have e1 : e / 32 * 32 + e % 32 = e := by omega
  have e2 : num (limbs a) * 4294967296 ^ (e / 32) * 2 ^ (e % 32) = ((a * 2 ^ e : Nat) : Int) := by
    rw [num_limbs, Int.natCast_mul, Int.natCast_pow]
    conv => rhs; rw [← e1]
    rw [Int.mul_assoc]
    congr 1
    exact (pow32i _ _).symm
  rw [e1, e2] at h
  exact h

/-- a magnitude shifted down -/
theorem refShr_num (a e : Nat) (ao : Option Addr) (n ca : Nat) (w : World) (ha : Sl w ao n ca (limbs a)) (hn : n ≤ 1000000000) (he : e ≤ 30000000000) :
    Calls Tryz.prog 128 #[.slice ao n ca, .int .i64 (e : Int)] w fun r w' => ∃ ro l cr L, r = .returned (.tuple #[.slice ro l cr, .bool (decide (a % 2 ^ e ≠ 0))]) ∧ Sl w' ro l cr L ∧ num L = ((a / 2 ^ e : Nat) : Int) ∧ l ≤ n ∧ Ext w w' := by
  have h := refShr_any (limbs a) (e / 32) (e % 32) ao n ca w ha (by omega) hn (by omega)
  have e1 : e / 32 * 32 + e % 32 = e := by omega
  rw [e1] at h
  refine h.mono fun r w' ⟨ro, l, cr, hr, hsl, hw⟩ => ⟨ro, l, cr, _, ?_, hsl, ?_, ?_, hw⟩
  · rw [hr, num_limbs]
    have e3 : ((a : Int) % 2 ^ e ≠ 0) ↔ (a % 2 ^ e ≠ 0) := by
      have : (a : Int) % 2 ^ e = ((a % 2 ^ e : Nat) : Int) := by rw [Int.natCast_emod, Int.natCast_pow]; rfl
      rw [this]; omega
    rw [decide_eq_decide.2 e3]
  · rw [num_shr (by omega)]
    by_cases hs : e / 32 ≤ n
    · rw [num_drop_div (Wf.limbs a) _ (by rw [ha.len]; exact hs), num_limbs]
      conv => rhs; rw [← e1, pow32, ← Nat.div_div_eq_div_mul, Int.natCast_ediv, Int.natCast_ediv, Int.natCast_pow, Int.natCast_pow]
      rfl
    · rw [List.drop_eq_nil_of_le (by rw [ha.len]; omega)]
      have h1 := (limbs_len_le a n).1 (by rw [ha.len]; exact Nat.le_refl _)
      have h2 : a < 2 ^ e := by
        have h3 : 4294967296 ^ n ≤ 2 ^ e := by
          rw [← e1, pow32]
          have := pow_le' (show n ≤ e / 32 by omega)
          exact Nat.le_trans this (Nat.le_mul_of_pos_right _ (Nat.pow_pos (by omega)))
        omega
      rw [Nat.div_eq_of_lt h2]
      simp [num]
  · have := hsl.len
    rw [shr_length, List.length_drop, ha.len] at this
    omega

theorem bn_num {w : World} {nr nb : Bool} {ro : Option Addr} {k rc : Nat} {L : List Int} {a : Nat} {x : Int} (h : Bn w nr ro k rc (sgd nb L)) (hL : num L = (a : Int)) (hx : x = if nb then -(a : Int) else a) : Bn w nr ro k rc x := by
  have : sgd nb L = x := by unfold sgd; rw [hL, hx]
  rwa [this] at h

set_option maxRecDepth 100000 in
set_option maxHeartbeats 4000000 in
/-- a shift down by at least a bit, of a number that is not negative -/
theorem refShift_down (nb : Bool) (ao : Option Addr) (n cap : Nat) (x : Int) (e : Nat) (w : World) (h : Bg w nb ao n cap x) (h0 : 0 ≤ x) (he0 : 0 < e) (he : e ≤ 1048576) :
    Calls Tryz.prog 53 #[.agg #[.bool nb, .slice ao n cap], .int .i64 (-(e : Int))] w fun r w' => ∃ nr ro k cr, r = .returned (.agg #[.bool nr, .slice ro k cr]) ∧ Bn w' nr ro k cr (x / 2 ^ e) ∧ k ≤ n ∧ Ext w w' := by
  obtain ⟨ei, hei⟩ : ∃ ei : Int, (e : Int) = ei := ⟨_, rfl⟩
  have hei0 : 0 < ei := by omega
  have hei1 : ei ≤ 1048576 := by omega
  rw [hei]
  have HEI := Lib.hid hei; clear hei
  have hsm := h.small
  go_enter Tryz.func53, Tryz.ntmps53
  go_upto_region 1 with fail
  obtain ⟨W, hW, hB, hbx, hrx, hz⟩ := boxes1 w nb ao n cap
  rw [← hW]
  clear hW
  have h1 := h.below hB
  generalize hBe : w.heap.size = B at *
  have HBe := Lib.hid hBe; clear hBe
  have k0 := hbx.c0
  have k1 := hbx.c1
  go_wp2_with fail
  refine (refNorm_any nb ao n cap x W h1).mono ?_
  rintro r w1 ⟨nr, ro, k, rc, rfl, hs1, hk, hw1⟩
  have a1 := hbx.below hw1
  have b1 := hrx.below hw1
  have hB1 := bnext hB (by omega) hw1
  have ho := only_set2 w1 B (.bool nr) (.slice ro k rc)
  have a2 := a1.stored nr ro k rc
  have b2 := b1.only ho (by omega)
  have hn2 : Bn ((w1.setCell ⟨B, 0, none⟩ (.bool nr)).setCell ⟨B, 1, none⟩ (.slice ro k rc)) nr ro k rc x := ⟨hs1.neg, hs1.sl.only_box a1 ho⟩
  have hB2 := hB1.1.trans (ho.below (Nat.le_refl B))
  have hz2 : B + 2 ≤ ((w1.setCell ⟨B, 0, none⟩ (.bool nr)).setCell ⟨B, 1, none⟩ (.slice ro k rc)).heap.size := by rw [ho.size]; have := hw1.size; omega
  have k0 := a1.c0
  have k1 := a1.c1
  have k2 := a1.f 0
  have k3 := a1.f 1
  go_upto_region 2 with fail
  clear k0 k1 k2 k3 a1 b1 ho hw1 hbx hrx hs1
  generalize (w1.setCell ⟨B, 0, none⟩ (.bool nr)).setCell ⟨B, 1, none⟩ (.slice ro k rc) = V at *
  have hneg : nr = false := by rw [hn2.neg]; simp; omega
  subst hneg
  have k0 := a2.c0
  have k1 := a2.c1
  have HN := Lib.hid hn2
  have hsl := hn2.sl
  clear hn2
  have hcall := refShr_num x.natAbs e ro k rc V hsl (by omega) (by omega)
  rw [HEI.out] at hcall
  have HC := Lib.hid hcall; clear hcall hsl
  go_wp2_with fail
  refine HC.out.mono ?_
  rintro r w3 ⟨so, l, sc, L, rfl, hL, hnum, hl, hw3⟩
  have b3 := b2.below hw3
  have a3 := a2.below hw3
  have hB3 := bnext hB2 (by omega) hw3
  have k0 := a3.c0
  have k1 := a3.c1
  have HNUM := Lib.hid hnum; clear hnum
  generalize decide (x.natAbs % 2 ^ e ≠ 0) = lost
  go_wp2_with fail
  refine (make1_any false so l sc L w3 hL).mono ?_
  rintro r w4 ⟨mr, mo, j, mc, rfl, hm4, hj, hw4⟩
  have b4 := b3.below hw4
  have a4 := a3.below hw4
  have hB4 := bnext hB3.1 hB3.2 hw4
  clear k0 k1 HC a2 a3 b2 b3 hL
  go_upto_region 6 with fail
  obtain ⟨Z, hZ, hZB, c5, hz5⟩ := box_new w4 mr mo j mc
  rw [← hZ]
  clear hZ
  have b5 := b4.below hZB
  have a5 := a4.below hZB
  have hm5 := hm4.below hZB
  obtain ⟨hB5, hB5'⟩ := bnext hB4.1 hB4.2 hZB
  have k0 := a5.c0
  have k1 := a5.c1
  have l0 := c5.c0
  have l1 := c5.c1
  have q0 := b5.c0
  have q1 := b5.c1
  have q2 := b5.f 0
  have q3 := b5.f 1
  have z3 := b5.stored mr mo j mc
  have z0 := z3.c0
  have z1 := z3.c1
  have hres : Bn ((Z.setCell ⟨B + 1, 0, none⟩ (.bool mr)).setCell ⟨B + 1, 1, none⟩ (.slice mo j mc)) mr mo j mc (x / 2 ^ e) := by
    refine bn_num (nb := false) (a := x.natAbs / 2 ^ e) ⟨hm5.neg, hm5.sl.only_box b5 (only_set2 _ _ _ _)⟩ HNUM.out ?_
    rw [if_neg (by decide), Int.natCast_ediv, Int.natCast_pow, Int.natAbs_of_nonneg h0]; rfl
  have hbl := hB5.trans ((only_set2 Z (B + 1) (.bool mr) (.slice mo j mc)).below (Nat.le_succ B))
  have HRES := Lib.hid hres; clear hres
  go_wp2
  refine bodyPost_ret (v := .agg #[.bool mr, .slice mo j mc]) (by simp [results, Tryz.results53, go_sem, z0, z1]) rfl ⟨_, mo, j, mc, rfl, HRES.out, by omega, ?_⟩
  show Below _ _ _
  rw [HBe.out]; exact hbl

set_option maxRecDepth 100000 in
set_option maxHeartbeats 4000000 in
/-- a shift up -/
theorem refShift_up (nb : Bool) (ao : Option Addr) (n cap : Nat) (x : Int) (e : Nat) (w : World) (h : Bg w nb ao n cap x) (he : e ≤ 1048576) :
    Calls Tryz.prog 53 #[.agg #[.bool nb, .slice ao n cap], .int .i64 (e : Int)] w fun r w' => ∃ nr ro k cr, r = .returned (.agg #[.bool nr, .slice ro k cr]) ∧ Bn w' nr ro k cr (x * 2 ^ e) ∧ k ≤ e / 32 + n + 1 ∧ Ext w w' := by
  obtain ⟨ei, hei⟩ : ∃ ei : Int, (e : Int) = ei := ⟨_, rfl⟩
  have hei0 : 0 ≤ ei := by omega
  have hei1 : ei ≤ 1048576 := by omega
  rw [hei]
  have HEI := Lib.hid hei; clear hei
  have hsm := h.small
  go_enter Tryz.func53, Tryz.ntmps53
  go_upto_region 1 with fail
  obtain ⟨W, hW, hB, hbx, hrx, hz⟩ := boxes1 w nb ao n cap
  rw [← hW]
  clear hW
  have h1 := h.below hB
  generalize hBe : w.heap.size = B at *
  have HBe := Lib.hid hBe; clear hBe
  have k0 := hbx.c0
  have k1 := hbx.c1
  go_wp2_with fail
  refine (refNorm_any nb ao n cap x W h1).mono ?_
  rintro r w1 ⟨nr, ro, k, rc, rfl, hs1, hk, hw1⟩
  have a1 := hbx.below hw1
  have b1 := hrx.below hw1
  have hB1 := bnext hB (by omega) hw1
  have ho := only_set2 w1 B (.bool nr) (.slice ro k rc)
  have a2 := a1.stored nr ro k rc
  have b2 := b1.only ho (by omega)
  have hn2 : Bn ((w1.setCell ⟨B, 0, none⟩ (.bool nr)).setCell ⟨B, 1, none⟩ (.slice ro k rc)) nr ro k rc x := ⟨hs1.neg, hs1.sl.only_box a1 ho⟩
  have hB2 := hB1.1.trans (ho.below (Nat.le_refl B))
  have hz2 : B + 2 ≤ ((w1.setCell ⟨B, 0, none⟩ (.bool nr)).setCell ⟨B, 1, none⟩ (.slice ro k rc)).heap.size := by rw [ho.size]; have := hw1.size; omega
  have k0 := a1.c0
  have k1 := a1.c1
  have k2 := a1.f 0
  have k3 := a1.f 1
  go_upto_region 2 with fail
  clear k0 k1 k2 k3 a1 b1 ho hw1 hbx hrx hs1
  generalize (w1.setCell ⟨B, 0, none⟩ (.bool nr)).setCell ⟨B, 1, none⟩ (.slice ro k rc) = V at *
  have k0 := a2.c0
  have k1 := a2.c1
  have HN := Lib.hid hn2
  have hsl := hn2.sl
  clear hn2
  have hcall : ∀ wx, Ext V wx → Calls Tryz.prog 127 #[.slice ro k rc, .int .i64 (e : Int)] wx fun r w' => ∃ ro l cr L, r = .returned (.slice ro l cr) ∧ Sl w' ro l cr L ∧ num L = ((x.natAbs * 2 ^ e : Nat) : Int) ∧ l = e / 32 + k + 1 ∧ Ext wx w' :=
    fun wx hx => refShl_num x.natAbs e ro k rc wx (hsl.below hx) (by omega) (by omega)
  rw [HEI.out] at hcall
  have HC := Lib.hid hcall; clear hcall hsl
  have HA := Lib.hid a2
  have HB := Lib.hid b2
  have q0 := b2.c0
  have q1 := b2.c1
  have q2 := b2.f 0
  have q3 := b2.f 1
  clear a2 b2
  go_wp2_with fail
  go_region_with (first
    | (go_at_call 127; refine (HC.out _ (by exact (Below.refl _ _).drew)).mono ?_; rintro r w3 ⟨so, l, sc, L, rfl, hL, hnum, hl, hw3⟩; have HNUM := Lib.hid hnum; have HLL := Lib.hid hl; clear hnum hl; have hw3 : Ext V w3 := Ext.trans (by exact (Below.refl _ _).drew) hw3; have b3 := HB.out.below hw3; have a3 := HA.out.below hw3; have p0 := a3.c0; have p1 := a3.c1; have g0 := b3.f 0; have g1 := b3.f 1)
    | (go_at_call 126; refine (make1_any nr so l sc L w3 hL).mono ?_; rintro r w4 ⟨mr, mo, j, mc, rfl, hm4, hj, hw4⟩; have b4 := b3.below hw4; have e0 := b4.c0; have e1 := b4.c1; have f0 := b4.f 0; have f1 := b4.f 1))
  all_goals
    clear k0 k1 q0 q1 q2 q3 p0 p1 g0 g1
    have z3 := b4.stored mr mo j mc
    have z0 := z3.c0
    have z1 := z3.c1
    have hres : Bn ((w4.setCell ⟨B + 1, 0, none⟩ (.bool mr)).setCell ⟨B + 1, 1, none⟩ (.slice mo j mc)) mr mo j mc (x * 2 ^ e) := by
      refine bn_num (nb := nr) (a := x.natAbs * 2 ^ e) ⟨hm4.neg, hm4.sl.only_box b4 (only_set2 _ _ _ _)⟩ HNUM.out ?_
      have h5 := HN.out.neg
      rw [Int.natCast_mul, Int.natCast_pow]
      by_cases hx : x < 0
      · rw [h5, decide_eq_true hx, if_pos rfl, ← Int.neg_mul]
        congr 1
        omega
      · rw [h5, decide_eq_false hx, if_neg (by decide)]
        congr 1
        omega
    have hB3 := bnext hB2 (by omega) hw3
    have hbl := (hB3.1.trans (hw4.mono hB3.2)).trans ((only_set2 w4 (B + 1) (.bool mr) (.slice mo j mc)).below (Nat.le_succ B))
    have HRES := Lib.hid hres; clear hres
    have HBL := Lib.hid hbl; clear hbl
    go_wp2
    refine bodyPost_ret (v := .agg #[.bool mr, .slice mo j mc]) (by simp [results, Tryz.results53, go_sem, z0, z1]) rfl ⟨_, mo, j, mc, rfl, HRES.out, by have := HLL.out; omega, ?_⟩
    show Below _ _ _
    rw [HBe.out]; exact HBL.out
end Go.Proofs.YtjohpdobnedilaaGreatDoor
