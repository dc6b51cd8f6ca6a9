import Derived.Test.YtapcecjbmcoliaaGreatDoorACauU19
import Derived.Test.YtapcecjbmcoliaaGreatDoorACauU18
import Derived.Test.YtapcecjbmcoliaaGreatDoorACauU21
import Derived.Deep.QuietTactic
import Derived.BigQuiet
namespace Go.Proofs.YtapcecjbmcoliaaGreatDoor
open Go.RowKit

theorem num_take_zero_iff {zs : List Int} (h : Wf zs) (k : Nat) (hk : k < zs.length) : num (zs.take (k + 1)) = 0 ↔ num (zs.take k) = 0 ∧ zs.getD k 0 = 0 := by
  rw [num_take_succ zs k hk]
  have h1 := num_nonneg (h.take k)
  have h2 := (h.getD k).1
  have h3 := pow_pos' k
  have h4 : 0 ≤ 4294967296 ^ k * zs.getD k 0 := Int.mul_nonneg (Int.le_of_lt h3) h2
  constructor
  · intro h5
    have h6 : 4294967296 ^ k * zs.getD k 0 = 0 := by omega
    rcases Int.mul_eq_zero.1 h6 with h7 | h7 <;> omega
  · rintro ⟨h5, h6⟩
    rw [h5, h6]; simp

/-- what a shift by s limbs and k bits loses -/
theorem lost_iff {zs : List Int} (h : Wf zs) (s k : Nat) (hk : k < 32) (hs : s < zs.length) : num zs % 2 ^ (s * 32 + k) = 0 ↔ num (zs.take s) = 0 ∧ zs.getD s 0 % 2 ^ k = 0 := by
  have hp : (2 : Int) ^ (s * 32 + k) = 4294967296 ^ s * 2 ^ k := by
    have := cast2 4294967296 s k
    have e := congrArg (Nat.cast (R := Int)) (pow32 s k)
    rw [Int.natCast_pow] at e
    exact e.trans this
  have h0 := num_append (zs.take s) (zs.drop s)
  rw [List.take_append_drop, List.length_take, Nat.min_eq_left (by omega), List.drop_eq_getElem_cons hs, num, ← getD_at hs] at h0
  have h1 := num_nonneg (h.take s)
  have h2 := num_lt (h.take s)
  rw [List.length_take, Nat.min_eq_left (by omega)] at h2
  have h3 := pow_pos' s
  have h4 := two_pos k
  rw [hp, h0]
  generalize num (zs.take s) = a at *
  generalize zs.getD s 0 = z at *
  generalize num (zs.drop (s + 1)) = r at *
  obtain ⟨c, hc⟩ : ∃ c : Int, 4294967296 = 2 ^ k * c := ⟨2 ^ (32 - k), by rw [← Int.pow_add, show k + (32 - k) = 32 by omega]; rfl⟩
  have e1 : (z + 4294967296 * r) % 2 ^ k = z % 2 ^ k := by
    rw [hc, Int.mul_assoc, Int.add_mul_emod_self_left]
  rw [← e1]
  generalize (z + 4294967296 * r) = y at *
  generalize hP : (4294967296 : Int) ^ s = P at *
  have e2 : (a + P * y) % (P * 2 ^ k) = a + P * (y % 2 ^ k) := by
    have h5 := Int.mul_ediv_add_emod y (2 ^ k)
    have h6 := Int.emod_nonneg y (Int.ne_of_gt h4)
    have h7 : y % 2 ^ k + 1 ≤ 2 ^ k := Int.emod_lt_of_pos y h4
    have h8 : a + P * y = a + P * (y % 2 ^ k) + P * 2 ^ k * (y / 2 ^ k) := by
      conv => lhs; rw [← h5]
      rw [Int.mul_add, ← Int.mul_assoc]; omega
    rw [h8, Int.add_mul_emod_self_left]
    have h9 := Int.mul_le_mul_of_nonneg_left h7 (Int.le_of_lt h3)
    rw [Int.mul_add, Int.mul_one] at h9
    have h10 : 0 ≤ P * (y % 2 ^ k) := Int.mul_nonneg (Int.le_of_lt h3) h6
    exact Int.emod_eq_of_lt (by omega) (by omega)
  rw [e2]
  have h6 := Int.emod_nonneg y (Int.ne_of_gt h4)
  have h10 : 0 ≤ P * (y % 2 ^ k) := Int.mul_nonneg (Int.le_of_lt h3) h6
  constructor
  · intro h
    have h11 : P * (y % 2 ^ k) = 0 := by omega
    rcases Int.mul_eq_zero.1 h11 with h12 | h12
    · omega
    · exact ⟨by omega, h12⟩
  · rintro ⟨h11, h12⟩
    rw [h11, h12]; simp

theorem lost_far {zs : List Int} (h : Wf zs) (s k : Nat) (hs : zs.length ≤ s) : num zs % 2 ^ (s * 32 + k) = num zs := by
  have hp : (2 : Int) ^ (s * 32 + k) = 4294967296 ^ s * 2 ^ k := by
    have := cast2 4294967296 s k
    have e := congrArg (Nat.cast (R := Int)) (pow32 s k)
    rw [Int.natCast_pow] at e
    exact e.trans this
  have h1 := num_nonneg h
  have h2 := num_lt h
  have h3 : (4294967296 : Int) ^ zs.length ≤ 4294967296 ^ s := by
    obtain ⟨c, hc⟩ : ∃ c, s = zs.length + c := ⟨s - zs.length, by omega⟩
    rw [hc, Int.pow_add]
    have := Int.mul_le_mul_of_nonneg_left (show (1 : Int) ≤ 4294967296 ^ c from pow_pos' c) (Int.le_of_lt (pow_pos' zs.length))
    rwa [Int.mul_one] at this
  have h4 : (4294967296 : Int) ^ s ≤ 4294967296 ^ s * 2 ^ k := by
    have := Int.mul_le_mul_of_nonneg_left (show (1 : Int) ≤ 2 ^ k from two_pos k) (Int.le_of_lt (pow_pos' s))
    rwa [Int.mul_one] at this
  rw [hp]
  exact Int.emod_eq_of_lt h1 (by omega)

theorem or64 {y z : Int} (y0 : 0 ≤ y) (y1 : y < 4294967296) (z0 : 0 ≤ z) (z1 : z < 4294967296) : bits BinOp.or IntKind.u64 y (z * 4294967296) = y + z * 4294967296 := by
  obtain ⟨a, rfl⟩ := Int.eq_ofNat_of_zero_le y0
  obtain ⟨b, rfl⟩ := Int.eq_ofNat_of_zero_le z0
  have e := bits_or_u64_nat a (b * 4294967296) (by omega) (by omega)
  have e2 : a ||| b * 4294967296 = a + b * 4294967296 := by
    have := Nat.two_pow_add_eq_or_of_lt (i := 32) (b := a) (by omega) b
    rw [Nat.or_comm, Nat.mul_comm b, ← this]; omega
  rw [e2] at e
  rw [Int.natCast_add, Int.natCast_mul] at e
  exact e

theorem and_low {y : Int} {k : Nat} (hk : k < 32) (y0 : 0 ≤ y) (y1 : y < 4294967296) : bits BinOp.and IntKind.u32 y (2 ^ k - 1) = y % 2 ^ k := by
  obtain ⟨a, rfl⟩ := Int.eq_ofNat_of_zero_le y0
  have hp : 2 ^ k < 2 ^ 32 := Nat.pow_lt_pow_right (by omega) hk
  have hp0 : 0 < 2 ^ k := Nat.pow_pos (by omega)
  have e := bits_and_u32_nat a (2 ^ k - 1) (by omega) (by omega)
  rw [Nat.and_two_pow_sub_one_eq_mod] at e
  have e2 : ((2 ^ k - 1 : Nat) : Int) = (2 : Int) ^ k - 1 := by
    rw [Int.natCast_sub (by omega), Int.natCast_pow]; rfl
  rw [e2] at e
  rw [e, Int.natCast_emod, Int.natCast_pow]; rfl

/-- one limb of the result -/
theorem limb_out {y z : Int} {k : Nat} (hk : k < 32) (y0 : 0 ≤ y) (y1 : y < 4294967296) : (y + z * 4294967296) / 2 ^ k % 4294967296 = y / 2 ^ k + z % 2 ^ k * 2 ^ (32 - k) := by
  obtain ⟨h1, h2, h3⟩ := limb_down (z := z) hk y0 y1
  have hp2 := pow_split hk
  have hp := two_pos k
  have e1 : (y + z * 4294967296) / 2 ^ k = y / 2 ^ k + z * 2 ^ (32 - k) := by
    rw [← hp2, Int.mul_comm (2 ^ k), ← Int.mul_assoc, Int.add_mul_ediv_right _ _ (Int.ne_of_gt hp)]
  rw [e1]
  have e2 : y / 2 ^ k + z * 2 ^ (32 - k) = y / 2 ^ k + z % 2 ^ k * 2 ^ (32 - k) + 4294967296 * (z / 2 ^ k) := by
    have h5 := Int.mul_ediv_add_emod z (2 ^ k)
    have h6 : z * 2 ^ (32 - k) = (2 ^ k * (z / 2 ^ k) + z % 2 ^ k) * 2 ^ (32 - k) := by rw [h5]
    rw [h6, Int.add_mul, Int.mul_right_comm, hp2]; omega
  rw [e2, Int.add_mul_emod_self_left, Int.emod_eq_of_lt h2 h3]
theorem shr_take (k : Nat) (ds : List Int) (j : Nat) (h : j < ds.length) : (shr k ds).take j ++ [ds.getD j 0 / 2 ^ k + ds.getD (j + 1) 0 % 2 ^ k * 2 ^ (32 - k)] = (shr k ds).take (j + 1) := by
  rw [take_succ_getD _ _ (by rw [shr_length]; exact h), shr_getD k ds j h]

theorem shr_wf {k : Nat} (hk : k < 32) {ds : List Int} (h : Wf ds) : Wf (shr k ds) := by
  induction ds with
  | nil => exact h
  | cons z r ih =>
    have hz := h.head
    exact Wf.cons (limb_down (z := r.getD 0 0) hk hz.1 hz.2).2 (ih h.tail)

/-- what is lost so far -/
def lostAt (zs : List Int) (s k j : Nat) : Bool := if j = 0 then decide (num (zs.take (min s zs.length)) ≠ 0) else decide (num zs % 2 ^ (s * 32 + k) ≠ 0)

set_option maxRecDepth 100000 in
set_option maxHeartbeats 4000000 in
theorem refShr_any (zs : List Int) (s k : Nat) (ao : Option Addr) (n ca : Nat) (w : World) (ha : Sl w ao n ca zs) (hk : k < 32) (hn : n ≤ 1000000000) (hs : s ≤ 1000000000) :
    Calls Tryz.prog 114 #[.slice ao n ca, .int .i64 ((s * 32 + k : Nat) : Int)] w fun e w' => ∃ ro l cr, e = .returned (.tuple #[.slice ro l cr, .bool (decide (num zs % 2 ^ (s * 32 + k) ≠ 0))]) ∧ Sl w' ro l cr (shr k (zs.drop s)) ∧ Ext w w' := by
  have hd : ((s * 32 + k : Nat) : Int) / 32 = (s : Int) := by omega
  have hr : ((s * 32 + k : Nat) : Int) % 32 = (k : Int) := by omega
  obtain ⟨x, hx⟩ : ∃ x : Int, ((s * 32 + k : Nat) : Int) = x := ⟨_, rfl⟩
  rw [hx] at hd hr ⊢
  have hx0 : 0 ≤ x := by omega
  have hx1 : x ≤ 100000000000 := by omega
  have HX := Lib.hid hx; clear hx
  have hal := ha.len
  have HAL := Lib.hid hal; clear hal
  have hwz := ha.wf
  go_enter Tryz.func114, Tryz.ntmps114
  go_wp2
  go_loop [6, 7] (fun b i => ∃ j : Nat, j ≤ s ∧ j ≤ n ∧ i = .int .i64 j ∧ b = .bool (decide (num (zs.take j) ≠ 0))) (fun _ i => n - (intOf i).toNat)
  case atStart => exact ⟨0, Nat.zero_le _, Nat.zero_le _, rfl, by simp [num]⟩
  case round =>
    obtain ⟨j, hjs, hjn, rfl, rfl⟩ := hrel
    obtain ⟨bb, hbb⟩ : ∃ bb, decide (num (zs.take j) ≠ 0) = bb := ⟨_, rfl⟩
    rw [hbb]
    have HBB := Lib.hid hbb; clear hbb
    by_cases h12 : j < s ∧ j < n
    · obtain ⟨h1, h2⟩ := h12
      obtain ⟨b, off, rfl, hc⟩ := ha.cells (by rw [HAL.out]; omega)
      have c1 := hc j (by rw [HAL.out]; omega)
      clear hc
      have HZ := Lib.hid (num_take_zero_iff hwz j (by rw [HAL.out]; omega))
      obtain ⟨y, hy⟩ : ∃ y, zs.getD j 0 = y := ⟨_, rfl⟩
      rw [hy] at c1
      have HY := Lib.hid hy; clear hy
      cases bb with
      | true =>
        go_wp2
        go_round
        case rel =>
          refine ⟨j + 1, by omega, by omega, by go_num, ?_⟩
          have h3 := HBB.out
          have h4 := HZ.out
          simp only [decide_eq_true_eq] at h3
          rw [decide_eq_true (show num (zs.take (j + 1)) ≠ 0 from fun h5 => h3 (h4.1 h5).1)]
        case measure => simp [intOf] <;> omega
      | false =>
        go_wp2
        go_round
        case rel =>
          refine ⟨j + 1, by omega, by omega, by go_num, ?_⟩
          have h3 := HBB.out
          have h4 := HZ.out
          simp only [decide_eq_false_iff_not, Decidable.not_not] at h3
          rw [HY.out] at h4
          by_cases hy0 : y = 0
          · rw [decide_eq_false (show ¬ num (zs.take (j + 1)) ≠ 0 from fun h5 => h5 (h4.2 ⟨h3, hy0⟩)), hy0]; rfl
          · rw [decide_eq_true (show num (zs.take (j + 1)) ≠ 0 from fun h5 => hy0 (h4.1 h5).2)]; simp [hy0]
        case measure => simp [intOf] <;> omega
    · have hmin : min s zs.length = j := by rw [HAL.out]; omega
      have hbb : bb = lostAt zs s k 0 := by unfold lostAt; rw [if_pos rfl, hmin]; exact HBB.out.symm
      have HB0 := Lib.hid hbb; clear hbb
      have hex : j = s ∨ (j < s ∧ j = n) := by omega
      have hB0 := Below.refl w.heap.size w
      generalize hBe : w.heap.size = B at *
      have HBe := Lib.hid hBe; clear hBe hmin HBB
      rcases hex with hex | ⟨hex1, hex⟩
      · go_wp2
        go_loopw [6, 8, 10, 11] (fun b v i _ wr => ∃ q : Nat, (q = 0 ∨ s + q ≤ n) ∧ i = .int .i64 ((s + q : Nat) : Int) ∧ b = .bool (lostAt zs s k q) ∧ Own wr B v ((shr k (zs.drop s)).take q) ∧ Below B w wr) (fun _ _ i _ _ => n - (intOf i).toNat)
        case atStart => exact ⟨0, Or.inl rfl, by go_num, by rw [HB0.out], Own.nil _ _, hB0⟩
        case round =>
          obtain ⟨q, hq, rfl, rfl, hown, hB⟩ := hrel
          obtain ⟨L, hL⟩ : ∃ L, lostAt zs s k q = L := ⟨_, rfl⟩
          rw [hL]
          have HL := Lib.hid hL; clear hL
          by_cases hlt : s + q < n
          · have hAT := (ha.below (by rw [HBe.out]; exact hB)).cells
            obtain ⟨b, off, e0, hc⟩ := hAT (by rw [HAL.out]; omega)
            subst e0
            have c1 := hc (s + q) (by rw [HAL.out]; omega)
            have c2 := fun h => hc (s + q + 1) h
            have C2 := Lib.hid c2
            clear hc hAT c2
            obtain ⟨y, hy⟩ : ∃ y, zs.getD (s + q) 0 = y := ⟨_, rfl⟩
            have hyr := hwz.getD (s + q)
            rw [hy] at c1 hyr
            obtain ⟨y0, y1⟩ := hyr
            have HY := Lib.hid hy; clear hy
            obtain ⟨z, hz⟩ : ∃ z, zs.getD (s + q + 1) 0 = z := ⟨_, rfl⟩
            have hzr := hwz.getD (s + q + 1)
            rw [hz] at hzr
            obtain ⟨z0, z1⟩ := hzr
            have hdl : q < (zs.drop s).length := by rw [List.length_drop, HAL.out]; omega
            have hshr := shr_take k (zs.drop s) q hdl
            have hgd : ∀ i, (zs.drop s).getD i 0 = zs.getD (s + i) 0 := fun i => by simp [List.getD, List.getElem?_drop]
            rw [hgd, hgd, ← Nat.add_assoc] at hshr
            have OUT := Lib.hid hshr
            have hlost := lost_iff hwz s k hk (by rw [HAL.out]; omega)
            have HLOST := Lib.hid hlost
            have hand := and_low hk y0 y1
            have hpk : ((2 : Int) ^ k - 1) % 4294967296 = 2 ^ k - 1 := by
              have h1 := two_pos k
              have h2 := Int.pow_lt_pow_of_lt (show (1 : Int) < 2 by omega) hk
              have h3 : (2 : Int) ^ 32 = 4294967296 := rfl
              exact Int.emod_eq_of_lt (by omega) (by omega)
            have HAND := Lib.hid (show bits BinOp.and IntKind.u32 y ((2 ^ k - 1) % 4294967296) = y % 2 ^ k by rw [hpk]; exact hand)
            clear hdl hshr hgd hlost hand hpk
            by_cases hnx : s + q + 1 < n
            · have c2 := C2.out (by rw [HAL.out]; omega)
              rw [hz] at c2
              have HZ := Lib.hid hz; clear hz C2
              go_wp2
              by_cases hq0 : q = 0
              · have hgw : IntKind.i64.wrap (x.tdiv 32) = (s : Int) := by
                  rw [Int.tdiv_eq_ediv_of_nonneg hx0, hd]; exact IntWalk.i64_in _ ⟨by omega, by omega⟩
                have hg : ((s : Int) == IntKind.i64.wrap (x.tdiv 32)) = true := by rw [hgw]; simp
                have hg2 : ((s : Int) + (q : Int) == IntKind.i64.wrap (x.tdiv 32)) = true := by rw [hgw]; simp [hq0]
                clear hgw
                have hix : (s : Int) < (n : Int) := by omega
                have c1s : wr.cell? ⟨b, off + s, none⟩ = some (.int .u32 y) := by
                  have := c1
                  rwa [hq0] at this
                go_quiet (fail)
                by_cases hy2 : y % 2 ^ k = 0
                · have hbit : (bits BinOp.and IntKind.u32 y ((2 ^ k - 1) % 4294967296) != 0) = false := by rw [HAND.out, hy2]; rfl
                  have hownq : Own (wr.drewN nq) B _ ((shr k (zs.drop s)).take q) := hown
                  have hBq : Below B w (wr.drewN nq) := below_drewN hB nq
                  have hszq : B ≤ (wr.drewN nq).heap.size := by have := hBq.size; have := HBe.out; omega
                  have hlq : ((shr k (zs.drop s)).take q).length ≤ 1099511627776 := by rw [List.length_take]; omega
                  have HOWN := Lib.hid hownq
                  have HSZ := Lib.hid hszq
                  have HLQ := Lib.hid hlq
                  clear hownq hszq hlq hown
                  generalize wr.drewN nq = wq at *
                  go_wp2_with (at_builtin; refine wpList_append_u32 _ rfl (.tmp 76) (.tmp 81) rfl B _ ((shr k (zs.drop s)).take q) _ rfl rfl HOWN.out HSZ.out HLQ.out ?_)
                  intro v' w1 hown' hB1
                  go_wp2
                  go_roundw
                  case rel =>
                    refine ⟨q + 1, Or.inr (by omega), by go_num, ?_, ?_, hBq.trans hB1⟩
                    · unfold lostAt; rw [if_neg (by omega), ← HL.out]
                      unfold lostAt; rw [if_pos hq0, show min s zs.length = s by rw [HAL.out]; omega]
                      have h5 : zs.getD s 0 % 2 ^ k = 0 := by have := HY.out; rw [hq0] at this; rw [show zs.getD s 0 = y from this]; exact hy2
                      congr 1
                      rw [decide_eq_decide]
                      constructor
                      · intro h6 h7; exact h6 (HLOST.out.1 h7).1
                      · intro h6 h7; exact h6 (HLOST.out.2 ⟨h7, h5⟩)
                    · rw [or64 y0 y1 z0 z1, limb_out hk y0 y1, ← HY.out, ← HZ.out] at hown'; first | (rw [OUT.out] at hown'; exact hown') | (have h9 := OUT.out; simp only [hq0, List.take_zero, List.nil_append, Nat.add_zero, Nat.zero_add] at h9 hown' ⊢; rw [h9] at hown'; exact hown')
                  case measure => simp [intOf] <;> omega
                · have hbit : (bits BinOp.and IntKind.u32 y ((2 ^ k - 1) % 4294967296) != 0) = true := by rw [HAND.out]; simpa using hy2
                  have hownq : Own (wr.drewN nq) B _ ((shr k (zs.drop s)).take q) := hown
                  have hBq : Below B w (wr.drewN nq) := below_drewN hB nq
                  have hszq : B ≤ (wr.drewN nq).heap.size := by have := hBq.size; have := HBe.out; omega
                  have hlq : ((shr k (zs.drop s)).take q).length ≤ 1099511627776 := by rw [List.length_take]; omega
                  have HOWN := Lib.hid hownq
                  have HSZ := Lib.hid hszq
                  have HLQ := Lib.hid hlq
                  clear hownq hszq hlq hown
                  generalize wr.drewN nq = wq at *
                  go_wp2_with (at_builtin; refine wpList_append_u32 _ rfl (.tmp 76) (.tmp 81) rfl B _ ((shr k (zs.drop s)).take q) _ rfl rfl HOWN.out HSZ.out HLQ.out ?_)
                  intro v' w1 hown' hB1
                  go_wp2
                  go_roundw
                  case rel =>
                    refine ⟨q + 1, Or.inr (by omega), by go_num, ?_, ?_, hBq.trans hB1⟩
                    · have h5 : ¬ num zs % 2 ^ (s * 32 + k) = 0 := fun h => hy2 (by rw [← HY.out, hq0]; exact (HLOST.out.1 h).2)
                      unfold lostAt; rw [if_neg (by omega), decide_eq_true h5]
                    · rw [or64 y0 y1 z0 z1, limb_out hk y0 y1, ← HY.out, ← HZ.out] at hown'; first | (rw [OUT.out] at hown'; exact hown') | (have h9 := OUT.out; simp only [hq0, List.take_zero, List.nil_append, Nat.add_zero, Nat.zero_add] at h9 hown' ⊢; rw [h9] at hown'; exact hown')
                  case measure => simp [intOf] <;> omega
              · have hg2 : ((s : Int) + (q : Int) == (s : Int)) = false := by simp; omega
                have hg3 : decide ((s : Int) + (q : Int) = (s : Int)) = false := by simp; omega
                go_quiet (fail)
                have hownq : Own (wr.drewN nq) B _ ((shr k (zs.drop s)).take q) := hown
                have hBq : Below B w (wr.drewN nq) := below_drewN hB nq
                have hszq : B ≤ (wr.drewN nq).heap.size := by have := hBq.size; have := HBe.out; omega
                have hlq : ((shr k (zs.drop s)).take q).length ≤ 1099511627776 := by rw [List.length_take]; omega
                have HOWN := Lib.hid hownq
                have HSZ := Lib.hid hszq
                have HLQ := Lib.hid hlq
                clear hownq hszq hlq hown
                generalize wr.drewN nq = wq at *
                go_wp2_with (at_builtin; refine wpList_append_u32 _ rfl (.tmp 76) (.tmp 81) rfl B _ ((shr k (zs.drop s)).take q) _ rfl rfl HOWN.out HSZ.out HLQ.out ?_)
                intro v' w1 hown' hB1
                go_wp2
                go_roundw
                case rel =>
                  refine ⟨q + 1, Or.inr (by omega), by go_num, ?_, ?_, hBq.trans hB1⟩
                  · rw [← HL.out]; unfold lostAt; rw [if_neg hq0, if_neg (Nat.succ_ne_zero q)]
                  · rw [or64 y0 y1 z0 z1, limb_out hk y0 y1, ← HY.out, ← HZ.out] at hown'; first | (rw [OUT.out] at hown'; exact hown') | (have h9 := OUT.out; simp only [hq0, List.take_zero, List.nil_append, Nat.add_zero, Nat.zero_add] at h9 hown' ⊢; rw [h9] at hown'; exact hown')
                case measure => simp [intOf] <;> omega
            · have hz0 : z = 0 := by
                rw [← hz]
                simp only [List.getD]
                rw [List.getElem?_eq_none (by rw [HAL.out]; omega)]; rfl
              have HZ := Lib.hid hz; clear hz C2
              have OUT2 := Lib.hid (show y / 2 ^ k % 4294967296 = y / 2 ^ k + z % 2 ^ k * 2 ^ (32 - k) by rw [← limb_out hk y0 y1, hz0]; simp)
              go_wp2
              by_cases hq0 : q = 0
              · have hgw : IntKind.i64.wrap (x.tdiv 32) = (s : Int) := by
                  rw [Int.tdiv_eq_ediv_of_nonneg hx0, hd]; exact IntWalk.i64_in _ ⟨by omega, by omega⟩
                have hg : ((s : Int) == IntKind.i64.wrap (x.tdiv 32)) = true := by rw [hgw]; simp
                have hg2 : ((s : Int) + (q : Int) == IntKind.i64.wrap (x.tdiv 32)) = true := by rw [hgw]; simp [hq0]
                clear hgw
                have hix : (s : Int) < (n : Int) := by omega
                have c1s : wr.cell? ⟨b, off + s, none⟩ = some (.int .u32 y) := by
                  have := c1
                  rwa [hq0] at this
                go_quiet (fail)
                by_cases hy2 : y % 2 ^ k = 0
                · have hbit : (bits BinOp.and IntKind.u32 y ((2 ^ k - 1) % 4294967296) != 0) = false := by rw [HAND.out, hy2]; rfl
                  have hownq : Own (wr.drewN nq) B _ ((shr k (zs.drop s)).take q) := hown
                  have hBq : Below B w (wr.drewN nq) := below_drewN hB nq
                  have hszq : B ≤ (wr.drewN nq).heap.size := by have := hBq.size; have := HBe.out; omega
                  have hlq : ((shr k (zs.drop s)).take q).length ≤ 1099511627776 := by rw [List.length_take]; omega
                  have HOWN := Lib.hid hownq
                  have HSZ := Lib.hid hszq
                  have HLQ := Lib.hid hlq
                  clear hownq hszq hlq hown
                  generalize wr.drewN nq = wq at *
                  go_wp2_with (at_builtin; refine wpList_append_u32 _ rfl (.tmp 76) (.tmp 81) rfl B _ ((shr k (zs.drop s)).take q) _ rfl rfl HOWN.out HSZ.out HLQ.out ?_)
                  intro v' w1 hown' hB1
                  go_wp2
                  go_roundw
                  case rel =>
                    refine ⟨q + 1, Or.inr (by omega), by go_num, ?_, ?_, hBq.trans hB1⟩
                    · unfold lostAt; rw [if_neg (by omega), ← HL.out]
                      unfold lostAt; rw [if_pos hq0, show min s zs.length = s by rw [HAL.out]; omega]
                      have h5 : zs.getD s 0 % 2 ^ k = 0 := by have := HY.out; rw [hq0] at this; rw [show zs.getD s 0 = y from this]; exact hy2
                      congr 1
                      rw [decide_eq_decide]
                      constructor
                      · intro h6 h7; exact h6 (HLOST.out.1 h7).1
                      · intro h6 h7; exact h6 (HLOST.out.2 ⟨h7, h5⟩)
                    · rw [OUT2.out, ← HY.out, ← HZ.out] at hown'; first | (rw [OUT.out] at hown'; exact hown') | (have h9 := OUT.out; simp only [hq0, List.take_zero, List.nil_append, Nat.add_zero, Nat.zero_add] at h9 hown' ⊢; rw [h9] at hown'; exact hown')
                  case measure => simp [intOf] <;> omega
                · have hbit : (bits BinOp.and IntKind.u32 y ((2 ^ k - 1) % 4294967296) != 0) = true := by rw [HAND.out]; simpa using hy2
                  have hownq : Own (wr.drewN nq) B _ ((shr k (zs.drop s)).take q) := hown
                  have hBq : Below B w (wr.drewN nq) := below_drewN hB nq
                  have hszq : B ≤ (wr.drewN nq).heap.size := by have := hBq.size; have := HBe.out; omega
                  have hlq : ((shr k (zs.drop s)).take q).length ≤ 1099511627776 := by rw [List.length_take]; omega
                  have HOWN := Lib.hid hownq
                  have HSZ := Lib.hid hszq
                  have HLQ := Lib.hid hlq
                  clear hownq hszq hlq hown
                  generalize wr.drewN nq = wq at *
                  go_wp2_with (at_builtin; refine wpList_append_u32 _ rfl (.tmp 76) (.tmp 81) rfl B _ ((shr k (zs.drop s)).take q) _ rfl rfl HOWN.out HSZ.out HLQ.out ?_)
                  intro v' w1 hown' hB1
                  go_wp2
                  go_roundw
                  case rel =>
                    refine ⟨q + 1, Or.inr (by omega), by go_num, ?_, ?_, hBq.trans hB1⟩
                    · have h5 : ¬ num zs % 2 ^ (s * 32 + k) = 0 := fun h => hy2 (by rw [← HY.out, hq0]; exact (HLOST.out.1 h).2)
                      unfold lostAt; rw [if_neg (by omega), decide_eq_true h5]
                    · rw [OUT2.out, ← HY.out, ← HZ.out] at hown'; first | (rw [OUT.out] at hown'; exact hown') | (have h9 := OUT.out; simp only [hq0, List.take_zero, List.nil_append, Nat.add_zero, Nat.zero_add] at h9 hown' ⊢; rw [h9] at hown'; exact hown')
                  case measure => simp [intOf] <;> omega
              · have hg2 : ((s : Int) + (q : Int) == (s : Int)) = false := by simp; omega
                have hg3 : decide ((s : Int) + (q : Int) = (s : Int)) = false := by simp; omega
                go_quiet (fail)
                have hownq : Own (wr.drewN nq) B _ ((shr k (zs.drop s)).take q) := hown
                have hBq : Below B w (wr.drewN nq) := below_drewN hB nq
                have hszq : B ≤ (wr.drewN nq).heap.size := by have := hBq.size; have := HBe.out; omega
                have hlq : ((shr k (zs.drop s)).take q).length ≤ 1099511627776 := by rw [List.length_take]; omega
                have HOWN := Lib.hid hownq
                have HSZ := Lib.hid hszq
                have HLQ := Lib.hid hlq
                clear hownq hszq hlq hown
                generalize wr.drewN nq = wq at *
                go_wp2_with (at_builtin; refine wpList_append_u32 _ rfl (.tmp 76) (.tmp 81) rfl B _ ((shr k (zs.drop s)).take q) _ rfl rfl HOWN.out HSZ.out HLQ.out ?_)
                intro v' w1 hown' hB1
                go_wp2
                go_roundw
                case rel =>
                  refine ⟨q + 1, Or.inr (by omega), by go_num, ?_, ?_, hBq.trans hB1⟩
                  · rw [← HL.out]; unfold lostAt; rw [if_neg hq0, if_neg (Nat.succ_ne_zero q)]
                  · rw [OUT2.out, ← HY.out, ← HZ.out] at hown'; first | (rw [OUT.out] at hown'; exact hown') | (have h9 := OUT.out; simp only [hq0, List.take_zero, List.nil_append, Nat.add_zero, Nat.zero_add] at h9 hown' ⊢; rw [h9] at hown'; exact hown')
                case measure => simp [intOf] <;> omega
          · have hsn : (shr k (zs.drop s)).length ≤ q := by rw [shr_length, List.length_drop, HAL.out]; omega
            rw [List.take_of_length_le hsn] at hown
            have hwf := shr_wf hk (hwz.drop s)
            have hll : (shr k (zs.drop s)).length ≤ 1099511627776 := by rw [shr_length, List.length_drop, HAL.out]; omega
            obtain ⟨ro, rc, rfl, hsl⟩ := hown.sl hwf hll
            have hfin : L = decide (num zs % 2 ^ (s * 32 + k) ≠ 0) := by
              rw [← HL.out]
              unfold lostAt
              by_cases hq0 : q = 0
              · rw [if_pos hq0]
                rw [Nat.min_eq_right (by rw [HAL.out]; omega), List.take_length, lost_far hwz s k (by rw [HAL.out]; omega)]
              · rw [if_neg hq0]
            have HF := Lib.hid hfin
            have HSL := Lib.hid hsl
            clear hfin hsl hown hwf hsn
            go_wp2
            go_ret2
            exact ⟨ro, _, rc, by rw [HF.out]; rfl, HSL.out, by rw [Ext, HBe.out]; exact hB⟩
      · go_wp2
        go_loopw [6, 8, 10, 11] (fun b v i _ wr => ∃ q : Nat, (q = 0 ∨ s + q ≤ n) ∧ i = .int .i64 ((s + q : Nat) : Int) ∧ b = .bool (lostAt zs s k q) ∧ Own wr B v ((shr k (zs.drop s)).take q) ∧ Below B w wr) (fun _ _ i _ _ => n - (intOf i).toNat)
        case atStart => exact ⟨0, Or.inl rfl, by go_num, by rw [HB0.out], Own.nil _ _, hB0⟩
        case round =>
          obtain ⟨q, hq, rfl, rfl, hown, hB⟩ := hrel
          obtain ⟨L, hL⟩ : ∃ L, lostAt zs s k q = L := ⟨_, rfl⟩
          rw [hL]
          have HL := Lib.hid hL; clear hL
          by_cases hlt : s + q < n
          · exfalso; omega
          · have hsn : (shr k (zs.drop s)).length ≤ q := by rw [shr_length, List.length_drop, HAL.out]; omega
            rw [List.take_of_length_le hsn] at hown
            have hwf := shr_wf hk (hwz.drop s)
            have hll : (shr k (zs.drop s)).length ≤ 1099511627776 := by rw [shr_length, List.length_drop, HAL.out]; omega
            obtain ⟨ro, rc, rfl, hsl⟩ := hown.sl hwf hll
            have hfin : L = decide (num zs % 2 ^ (s * 32 + k) ≠ 0) := by
              rw [← HL.out]
              unfold lostAt
              by_cases hq0 : q = 0
              · rw [if_pos hq0]
                rw [Nat.min_eq_right (by rw [HAL.out]; omega), List.take_length, lost_far hwz s k (by rw [HAL.out]; omega)]
              · rw [if_neg hq0]
            have HF := Lib.hid hfin
            have HSL := Lib.hid hsl
            clear hfin hsl hown hwf hsn
            go_wp2
            go_ret2
            exact ⟨ro, _, rc, by rw [HF.out]; rfl, HSL.out, by rw [Ext, HBe.out]; exact hB⟩

end Go.Proofs.YtapcecjbmcoliaaGreatDoor
