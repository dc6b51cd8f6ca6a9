import Derived.Test.YtlpclahlolhjfaaGreatDoorMoRlU3
import Derived.Test.YtlpclahlolhjfaaGreatDoorMoRlU12
import Derived.Test.YtlpclahlolhjfaaGreatDoorMoRlU8
namespace Go.Proofs.YtlpclahlolhjfaaGreatDoor
open Go.RowKit

set_option maxRecDepth 100000 in
set_option maxHeartbeats 2000000 in
theorem refAddMag_any (xs ys : List Int) (ao bo : Option Addr) (n m ca cb : Nat) (w : World) (ha : Sl w ao n ca xs) (hb : Sl w bo m cb ys) (hn : n ≤ 1000000000) (hm : m ≤ 1000000000) :
    Calls Tryz.prog 78 #[.slice ao n ca, .slice bo m cb] w fun e w' => ∃ ro l cr L, e = .returned (.slice ro l cr) ∧ Sl w' ro l cr L ∧ num L = num xs + num ys ∧ l = max n m + 1 ∧ Ext w w' := by
  have hal := ha.len
  have HAL := Lib.hid hal; clear hal
  have hbl := hb.len
  have HBL := Lib.hid hbl; clear hbl
  have hwx := ha.wf
  have hwy := hb.wf
  go_enter Tryz.func78, Tryz.ntmps78
  have hB0 := Below.refl w.heap.size w
  generalize hBe : w.heap.size = B at *
  have HBe := Lib.hid hBe; clear hBe
  go_wp2
  go_loopw [5, 6, 7] (fun v c i wr => ∃ (q : Nat) (L : List Int) (cc : Int), q ≤ max n m ∧ i = .int .i64 q ∧ c = .int .u64 cc ∧ SumAt xs ys q L cc ∧ Own wr B v L ∧ Below B w wr) (fun _ _ i _ => max n m - (intOf i).toNat)
  case atStart => exact ⟨0, [], 0, Nat.zero_le _, rfl, rfl, SumAt.start xs ys, Own.nil _ _, hB0⟩
  case round =>
    obtain ⟨q, L, cc, hq, rfl, rfl, hsh, hown, hB⟩ := hrel
    have hlen : L.length = q := hsh.1
    have hc0 := hsh.2.2.1
    have hc1 := hsh.2.2.2.1
    have HSH := Lib.hid hsh; clear hsh
    have hszq : B ≤ wr.heap.size := by have := hB.size; have := HBe.out; omega
    have HSZ := Lib.hid hszq; clear hszq
    have hlq : L.length ≤ 1099511627776 := by omega
    have HLQ := Lib.hid hlq; clear hlq hlen
    have hxr := hwx.getD q
    have hyr := hwy.getD q
    obtain ⟨x, hx⟩ : ∃ x, xs.getD q 0 = x := ⟨_, rfl⟩
    obtain ⟨y, hy⟩ : ∃ y, ys.getD q 0 = y := ⟨_, rfl⟩
    rw [hx] at hxr
    rw [hy] at hyr
    obtain ⟨x0, x1⟩ := hxr
    obtain ⟨y0, y1⟩ := hyr
    have HX := Lib.hid hx
    have HY := Lib.hid hy
    by_cases hnm : n < m
    · by_cases hlt : q < m
      · by_cases h1 : q < n
        · obtain ⟨b, off, e0, hc⟩ := (ha.below (by rw [HBe.out]; exact hB)).cells (by rw [HAL.out]; omega)
          subst e0
          have c1 := hc q (by rw [HAL.out]; omega)
          rw [hx] at c1
          clear hc
          obtain ⟨b', off', e0', hc'⟩ := (hb.below (by rw [HBe.out]; exact hB)).cells (by rw [HBL.out]; omega)
          subst e0'
          have c2 := hc' q (by rw [HBL.out]; omega)
          rw [hy] at c2
          clear hc'
          clear hx hy
          go_wp2_with (at_builtin; refine wpList_append_u32 _ rfl (.tmp 39) (.tmp 42) rfl B _ L _ rfl rfl hown HSZ.out HLQ.out ?_)
          intro v' w2 hown' hB1
          go_wp2
          go_roundw
          case rel => exact ⟨q + 1, _, _, by omega, by go_num, rfl, HSH.out.step hwx hwy (by rw [HX.out, HY.out]), hown', hB.trans hB1⟩
          case measure => simp [intOf] <;> omega
        · obtain ⟨b', off', e0', hc'⟩ := (hb.below (by rw [HBe.out]; exact hB)).cells (by rw [HBL.out]; omega)
          subst e0'
          have c2 := hc' q (by rw [HBL.out]; omega)
          rw [hy] at c2
          clear hc'
          have hx0 : x = 0 := by rw [← HX.out]; exact getD_past (by rw [HAL.out]; omega)
          have HX0 := Lib.hid hx0; clear hx0
          clear hx hy
          go_wp2_with (at_builtin; refine wpList_append_u32 _ rfl (.tmp 39) (.tmp 42) rfl B _ L _ rfl rfl hown HSZ.out HLQ.out ?_)
          intro v' w2 hown' hB1
          go_wp2
          go_roundw
          case rel => exact ⟨q + 1, _, _, by omega, by go_num, rfl, HSH.out.step hwx hwy (by rw [HX.out, HY.out, HX0.out, Int.add_zero]), hown', hB.trans hB1⟩
          case measure => simp [intOf] <;> omega
      · have HQM := Lib.hid (show q = max n m by omega)
        clear hx hy
        go_wp2_with (at_builtin; refine wpList_append_u32 _ rfl (.tmp 46) (.tmp 49) rfl B _ L _ rfl rfl hown HSZ.out HLQ.out ?_)
        intro v' w2 hown' hB1
        obtain ⟨hwf, hll, hnum⟩ := HSH.out.done (by rw [HAL.out]; omega) (by rw [HBL.out]; omega)
        obtain ⟨ro, rc, rfl, hsl⟩ := hown'.sl hwf (by rw [hll]; omega)
        have HSL := Lib.hid hsl
        have HNUM := Lib.hid hnum
        have HLL := Lib.hid hll
        clear hsl hnum hown' hwf hll
        go_wp2
        go_ret
        exact ⟨ro, _, rc, _, rfl, HSL.out, HNUM.out, by rw [HLL.out, HQM.out], by rw [Ext, HBe.out]; exact hB.trans hB1⟩
    · by_cases hlt : q < n
      · by_cases h1 : q < m
        · obtain ⟨b, off, e0, hc⟩ := (ha.below (by rw [HBe.out]; exact hB)).cells (by rw [HAL.out]; omega)
          subst e0
          have c1 := hc q (by rw [HAL.out]; omega)
          rw [hx] at c1
          clear hc
          obtain ⟨b', off', e0', hc'⟩ := (hb.below (by rw [HBe.out]; exact hB)).cells (by rw [HBL.out]; omega)
          subst e0'
          have c2 := hc' q (by rw [HBL.out]; omega)
          rw [hy] at c2
          clear hc'
          clear hx hy
          go_wp2_with (at_builtin; refine wpList_append_u32 _ rfl (.tmp 39) (.tmp 42) rfl B _ L _ rfl rfl hown HSZ.out HLQ.out ?_)
          intro v' w2 hown' hB1
          go_wp2
          go_roundw
          case rel => exact ⟨q + 1, _, _, by omega, by go_num, rfl, HSH.out.step hwx hwy (by rw [HX.out, HY.out]), hown', hB.trans hB1⟩
          case measure => simp [intOf] <;> omega
        · obtain ⟨b, off, e0, hc⟩ := (ha.below (by rw [HBe.out]; exact hB)).cells (by rw [HAL.out]; omega)
          subst e0
          have c1 := hc q (by rw [HAL.out]; omega)
          rw [hx] at c1
          clear hc
          have hy0 : y = 0 := by rw [← HY.out]; exact getD_past (by rw [HBL.out]; omega)
          have HY0 := Lib.hid hy0; clear hy0
          clear hx hy
          go_wp2_with (at_builtin; refine wpList_append_u32 _ rfl (.tmp 39) (.tmp 42) rfl B _ L _ rfl rfl hown HSZ.out HLQ.out ?_)
          intro v' w2 hown' hB1
          go_wp2
          go_roundw
          case rel => exact ⟨q + 1, _, _, by omega, by go_num, rfl, HSH.out.step hwx hwy (by rw [HX.out, HY.out, HY0.out, Int.add_zero]), hown', hB.trans hB1⟩
          case measure => simp [intOf] <;> omega
      · have HQM := Lib.hid (show q = max n m by omega)
        clear hx hy
        go_wp2_with (at_builtin; refine wpList_append_u32 _ rfl (.tmp 46) (.tmp 49) rfl B _ L _ rfl rfl hown HSZ.out HLQ.out ?_)
        intro v' w2 hown' hB1
        obtain ⟨hwf, hll, hnum⟩ := HSH.out.done (by rw [HAL.out]; omega) (by rw [HBL.out]; omega)
        obtain ⟨ro, rc, rfl, hsl⟩ := hown'.sl hwf (by rw [hll]; omega)
        have HSL := Lib.hid hsl
        have HNUM := Lib.hid hnum
        have HLL := Lib.hid hll
        clear hsl hnum hown' hwf hll
        go_wp2
        go_ret
        exact ⟨ro, _, rc, _, rfl, HSL.out, HNUM.out, by rw [HLL.out, HQM.out], by rw [Ext, HBe.out]; exact hB.trans hB1⟩

set_option maxRecDepth 100000 in
set_option maxHeartbeats 2000000 in
theorem refSubMag_any (xs ys : List Int) (ao bo : Option Addr) (n m ca cb : Nat) (w : World) (ha : Sl w ao n ca xs) (hb : Sl w bo m cb ys) (hn : n ≤ 1000000000) (hm : m ≤ n) (hle : num ys ≤ num xs) :
    Calls Tryz.prog 80 #[.slice ao n ca, .slice bo m cb] w fun e w' => ∃ ro l cr L, e = .returned (.slice ro l cr) ∧ Sl w' ro l cr L ∧ num L = num xs - num ys ∧ l = n ∧ Ext w w' := by
  have hal := ha.len
  have HAL := Lib.hid hal; clear hal
  have hbl := hb.len
  have HBL := Lib.hid hbl; clear hbl
  have HLE := Lib.hid hle; clear hle
  have hwx := ha.wf
  have hwy := hb.wf
  go_enter Tryz.func80, Tryz.ntmps80
  have hB0 := Below.refl w.heap.size w
  generalize hBe : w.heap.size = B at *
  have HBe := Lib.hid hBe; clear hBe
  go_wp2
  go_loopw [5, 6, 7, 8] (fun v c i _ wr => ∃ (q : Nat) (L : List Int) (cc : Int), q ≤ n ∧ i = .int .i64 q ∧ c = .int .u64 cc ∧ DiffAt xs ys q L cc ∧ Own wr B v L ∧ Below B w wr) (fun _ _ i _ _ => n - (intOf i).toNat)
  case atStart => exact ⟨0, [], 0, Nat.zero_le _, rfl, rfl, DiffAt.start xs ys, Own.nil _ _, hB0⟩
  case round =>
    obtain ⟨q, L, cc, hq, rfl, rfl, hsh, hown, hB⟩ := hrel
    have hlen : L.length = q := hsh.1
    have hc0 := hsh.2.2.1
    have hc1 := hsh.2.2.2.1
    have HSH := Lib.hid hsh; clear hsh
    have hszq : B ≤ wr.heap.size := by have := hB.size; have := HBe.out; omega
    have HSZ := Lib.hid hszq; clear hszq
    have hlq : L.length ≤ 1099511627776 := by omega
    have HLQ := Lib.hid hlq; clear hlq
    by_cases hlt : q < n
    · have hxr := hwx.getD q
      have hyr := hwy.getD q
      obtain ⟨x, hx⟩ : ∃ x, xs.getD q 0 = x := ⟨_, rfl⟩
      obtain ⟨y, hy⟩ : ∃ y, ys.getD q 0 = y := ⟨_, rfl⟩
      rw [hx] at hxr
      rw [hy] at hyr
      obtain ⟨x0, x1⟩ := hxr
      obtain ⟨y0, y1⟩ := hyr
      have HX := Lib.hid hx
      have HY := Lib.hid hy
      clear hlen
      obtain ⟨b, off, e0, hc⟩ := (ha.below (by rw [HBe.out]; exact hB)).cells (by rw [HAL.out]; omega)
      subst e0
      have c1 := hc q (by rw [HAL.out]; omega)
      rw [hx] at c1
      clear hc hx
      by_cases h2 : q < m
      · obtain ⟨b', off', e0', hc'⟩ := (hb.below (by rw [HBe.out]; exact hB)).cells (by rw [HBL.out]; omega)
        subst e0'
        have c2 := hc' q (by rw [HBL.out]; omega)
        rw [hy] at c2
        clear hc' hy
        have HWD := Lib.hid (sub_word' x y cc x0 x1 y0 y1 hc0 hc1)
        go_wp2_with (at_builtin; refine wpList_append_u32 _ rfl (.tmp 33) (.tmp 36) rfl B _ L _ rfl rfl hown HSZ.out HLQ.out ?_)
        intro v' w2 hown' hB1
        go_wp2
        go_roundw
        case rel =>
          exact ⟨q + 1, _, _, by omega, by go_num, rfl, HSH.out.step ⟨Int.emod_nonneg _ (by omega), Int.emod_lt_of_pos _ (by omega)⟩ HWD.out.1 (HWD.out.2.trans (by rw [HX.out, HY.out])), hown', hB.trans hB1⟩
        case measure => simp [intOf] <;> omega
      · have hy0 : y = 0 := by rw [← HY.out]; exact getD_past (by rw [HBL.out]; exact h2)
        clear hy
        have HWD := Lib.hid (sub_word0 x cc x0 x1 hc0 hc1)
        go_wp2_with (at_builtin; refine wpList_append_u32 _ rfl (.tmp 33) (.tmp 36) rfl B _ L _ rfl rfl hown HSZ.out HLQ.out ?_)
        intro v' w2 hown' hB1
        go_wp2
        go_roundw
        case rel =>
          exact ⟨q + 1, _, _, by omega, by go_num, rfl, HSH.out.step ⟨Int.emod_nonneg _ (by omega), Int.emod_lt_of_pos _ (by omega)⟩ HWD.out.1 (HWD.out.2.trans (by rw [HX.out, HY.out, hy0])), hown', hB.trans hB1⟩
        case measure => simp [intOf] <;> omega
    · obtain rfl : q = n := by omega
      have hnum := HSH.out.done (by rw [HAL.out]; exact Nat.le_refl _) (by rw [HBL.out]; exact hm) HLE.out
      obtain ⟨ro, rc, rfl, hsl⟩ := hown.sl HSH.out.2.1 (by rw [hlen]; omega)
      have HSL := Lib.hid hsl
      have HNUM := Lib.hid hnum
      have HLL := Lib.hid hlen
      clear hsl hnum hown hlen
      go_wp2
      go_ret
      exact ⟨ro, _, rc, _, rfl, HSL.out, HNUM.out, HLL.out, by rw [Ext, HBe.out]; exact hB⟩
end Go.Proofs.YtlpclahlolhjfaaGreatDoor

namespace Go.Proofs.YtlpclahlolhjfaaGreatDoor
open Go.RowKit

set_option maxRecDepth 100000 in
set_option maxHeartbeats 2000000 in
theorem refMulMag_any (xs ys : List Int) (ao bo : Option Addr) (n m ca cb : Nat) (w : World) (ha : Sl w ao n ca xs) (hb : Sl w bo m cb ys) (hn : n ≤ 1000000000) (hm : m ≤ 1000000000) :
    Calls Tryz.prog 81 #[.slice ao n ca, .slice bo m cb] w fun e w' => ∃ ro l cr L, e = .returned (.slice ro l cr) ∧ Sl w' ro l cr L ∧ num L = num xs * num ys ∧ l = n + m ∧ Ext w w' := by
  have hst := PRows.start ys xs m n ha.len
  rw [Nat.add_comm m n] at hst
  have HS := Lib.hid hst; clear hst
  go_enter Tryz.func81, Tryz.ntmps81
  go_wp2_with (refine wpList_make_u32 _ rfl _ _ rfl _ (n + m) rfl rfl (by omega) (by omega) ?_)
  intro w1 hb1 hw1
  have ha1 := ha.below hw1
  have hb1' := hb.below hw1
  have hsa := ha.cells.stay_below hw1 (Nat.le_refl _)
  have hsb := hb.cells.stay_below hw1 (Nat.le_refl _)
  generalize hg : w.heap.size = g at *
  have HG := Lib.hid hg; clear hg
  go_wp2
  go_loopw [6, 7, 8] (fun i c j wr => ∃ (k : Nat) (Lk : List Int), k ≤ n ∧ i = .int .i64 k ∧ PRows ys xs Lk m k ∧ Blk wr g Lk ∧ Only g w1 wr)
    (fun i _ _ _ => n - (intOf i).toNat)
  case atStart => exact ⟨0, _, Nat.zero_le _, rfl, HS.out, hb1, Only.refl g w1⟩
  case round =>
    obtain ⟨k, Lk, hk, rfl, hP, hbk, ho⟩ := hrel
    by_cases hlt : k < n
    · obtain ⟨bb, ob, rfl, hcb⟩ := hsa _ ho (by rw [ha.len]; omega)
      have hxr := ha.wf.getD k
      obtain ⟨x, hx⟩ : ∃ x, xs.getD k 0 = x := ⟨_, rfl⟩
      rw [hx] at hxr
      have HX := Lib.hid hx; clear hx hcb
      obtain ⟨x0, x1⟩ := hxr
      have HP := Lib.hid hP; clear hP
      go_wp2
      go_loopw [7, 8] (fun c i wr => ∃ (j : Nat) (cc : Int) (Li : List Int), j ≤ m ∧ i = .int .i64 j ∧ c = .int .u64 cc ∧ 0 ≤ cc ∧ cc ≤ 4294967295 ∧ Added Lk Li (k + j) cc (4294967296 ^ k * (x * num (ys.take j))) ∧ Blk wr g Li ∧ Only g w1 wr)
        (fun _ i _ => m - (intOf i).toNat)
      case atStart => exact ⟨0, 0, Lk, Nat.zero_le _, rfl, rfl, by omega, by omega, Added.at HP.out.2.1 k, hbk, ho⟩
      case round =>
        obtain ⟨j, cc, Li, hj, rfl, rfl, hc0, hc1, hA, hbi, hoi⟩ := hrel
        have hlen : Li.length = m + n := by rw [hA.1, HP.out.1, ha.len]
        have hlen2 : Lk.length = m + n := by rw [HP.out.1, ha.len]
        by_cases hjt : j < m
        · obtain ⟨ba, oa, rfl, hca⟩ := hsb _ hoi (by rw [hb.len]; omega)
          have c2 := hca j (by rw [hb.len]; omega)
          clear hca
          obtain ⟨bb', ob', e', hcb⟩ := hsa _ hoi (by rw [ha.len]; omega)
          cases e'
          have c1 := hcb k (by rw [ha.len]; omega)
          rw [HX.out] at c1
          clear hcb
          have hyr := hb.wf.getD j
          obtain ⟨y, hy⟩ : ∃ y, ys.getD j 0 = y := ⟨_, rfl⟩
          rw [hy] at c2 hyr
          have HY := Lib.hid hy; clear hy
          obtain ⟨y0, y1⟩ := hyr
          have c3 := hbi.cell (k + j) (by omega)
          have c4 := hbi.frozen (k + j)
          rw [getD_of_drop hA.2.2.1] at c3
          have hzr := HP.out.2.1.getD (k + j)
          obtain ⟨z, hz⟩ : ∃ z, Lk.getD (k + j) 0 = z := ⟨_, rfl⟩
          rw [hz] at c3 hzr
          have HZ := Lib.hid hz; clear hz
          obtain ⟨z0, z1⟩ := hzr
          obtain ⟨p0, p1⟩ := mul_bounds x0 x1 y0 y1
          have HLn := Lib.hid hlen; clear hlen
          have HLn2 := Lib.hid hlen2; clear hlen2
          go_wp2
          go_quiet (fail)
          go_wp2
          go_roundw
          case rel =>
            have st := hA.step (by rw [HLn2.out]; omega) (x * y) (cc + x * y + z) (by rw [HZ.out]; omega)
            rw [row_step, ← HY.out, ← num_take_succ ys j (by rw [hb.len]; exact hjt), HY.out] at st
            exact ⟨j + 1, _, _, by omega, by go_num, rfl, by omega, by omega, st, (hbi.drewN nq).set _ _, (hoi.drewN nq).setCell _ _⟩
          case measure => simp [intOf] <;> omega
        · obtain rfl : j = m := by omega
          have HLn := Lib.hid hlen; clear hlen
          have HLn2 := Lib.hid hlen2; clear hlen2
          have c4 := hbi.frozen (k + j)
          have c3 := hbi.cell (k + j) (by rw [HLn.out]; omega)
          go_wp2
          go_roundw
          case rel =>
            have hz0 := HP.out.2.2.2 (k + j) (by omega)
            have st := hA.step (by rw [HLn2.out]; omega) 0 cc (by rw [hz0]; omega)
            rw [Int.emod_eq_of_lt hc0 (by omega), Int.ediv_eq_zero_of_lt hc0 (by omega), Int.mul_zero, Int.add_zero, List.take_of_length_le (by rw [hb.len]; exact Nat.le_refl _)] at st
            exact ⟨k + 1, _, by omega, by go_num, HP.out.step st (by omega) (by rw [ha.len]; exact hlt) HX.out, hbi.set _ _, hoi.setCell _ _⟩
          case measure => simp [intOf] <;> omega
    · obtain rfl : k = n := by omega
      have hlen : Lk.length = k + m := by rw [hP.1, ha.len, Nat.add_comm]
      have HLn := Lib.hid hlen; clear hlen
      have HP := Lib.hid hP; clear hP
      go_wp2
      go_ret
      refine ⟨_, _, _, Lk, rfl, hbk.sl HP.out.2.1 HLn.out (by omega) (Nat.le_refl _), ?_, rfl, by rw [Ext, HG.out]; exact hw1.trans (ho.below (Nat.le_refl _))⟩
      have := HP.out.2.2.1
      rw [List.take_of_length_le (by rw [ha.len]; exact Nat.le_refl _)] at this
      rw [this, Int.mul_comm]
end Go.Proofs.YtlpclahlolhjfaaGreatDoor
