import Derived.Test.YtagahbbjljndeaaGreatDoorMoNuU3
import Derived.Test.YtagahbbjljndeaaGreatDoorMoNuU19
import Derived.Test.YtagahbbjljndeaaGreatDoorMoNuU11
namespace Go.Proofs.YtagahbbjljndeaaGreatDoor
open Go.RowKit

set_option maxRecDepth 100000 in
set_option maxHeartbeats 2000000 in
theorem refAddMag_any (xs ys : List Int) (ao bo : Option Addr) (n m ca cb : Nat) (w : World) (ha : Sl w ao n ca xs) (hb : Sl w bo m cb ys) (hn : n ≤ 1000000000) (hm : m ≤ 1000000000) :
    Calls Tryz.prog 77 #[.slice ao n ca, .slice bo m cb] w fun e w' => ∃ ro l cr L, e = .returned (.slice ro l cr) ∧ Sl w' ro l cr L ∧ num L = num xs + num ys ∧ l = max n m + 1 ∧ Ext w w' := by
  have hal := ha.len
  have HAL := Lib.hid hal; clear hal
  have hbl := hb.len
  have HBL := Lib.hid hbl; clear hbl
  have hwx := ha.wf
  have hwy := hb.wf
  go_enter Tryz.func77, Tryz.ntmps77
  have hB0 := Below.refl w.heap.size w
  generalize hBe : w.heap.size = B at *
  have HBe := Lib.hid hBe; clear hBe
  go_wp2
  go_loopw [5, 6, 7] (fun v c i wr => ∃ (q : Nat) (L : List Int) (cc : Int), q ≤ max n m ∧ i = .int .i64 q ∧ c = .int .u64 cc ∧ SumAt xs ys q L cc ∧ Own wr B v L ∧ Below B w wr) (fun _ _ i _ => max n m - (intOf i).toNat)
  case atStart => exact ⟨0, [], 0, Nat.zero_le _, rfl, rfl, SumAt.start xs ys, Own.nil _ _, hB0⟩
  case round =>
    obtain ⟨q, L, cc, hq, rfl, rfl, hsh, hown, hB⟩ := hrel
    have hlen : L.length = q := hsh.1
    have hc0 := hsh.2.2.1
    have hc1 := hsh.2.2.2.1
    have HSH := Lib.hid hsh; clear hsh
    have hszq : B ≤ wr.heap.size := by have := hB.size; have := HBe.out; omega
    have HSZ := Lib.hid hszq; clear hszq
    have hlq : L.length ≤ 1099511627776 := by omega
    have HLQ := Lib.hid hlq; clear hlq hlen
    have hxr := hwx.getD q
    have hyr := hwy.getD q
    obtain ⟨x, hx⟩ : ∃ x, xs.getD q 0 = x := ⟨_, rfl⟩
    obtain ⟨y, hy⟩ : ∃ y, ys.getD q 0 = y := ⟨_, rfl⟩
    rw [hx] at hxr
    rw [hy] at hyr
    obtain ⟨x0, x1⟩ := hxr
    obtain ⟨y0, y1⟩ := hyr
    have HX := Lib.hid hx
    have HY := Lib.hid hy
    by_cases hnm : n < m
    · by_cases hlt : q < m
      · by_cases h1 : q < n
        · obtain ⟨b, off, e0, hc⟩ := (ha.below (by rw [HBe.out]; exact hB)).cells (by rw [HAL.out]; omega)
          subst e0
          have c1 := hc q (by rw [HAL.out]; omega)
          rw [hx] at c1
          clear hc
          obtain ⟨b', off', e0', hc'⟩ := (hb.below (by rw [HBe.out]; exact hB)).cells (by rw [HBL.out]; omega)
          subst e0'
          have c2 := hc' q (by rw [HBL.out]; omega)
          rw [hy] at c2
          clear hc'
          clear hx hy
          go_wp2_with (at_builtin; refine wpList_append_u32 _ rfl (.tmp 39) (.tmp 42) rfl B _ L _ rfl rfl hown HSZ.out HLQ.out ?_)
          intro v' w2 hown' hB1
          go_wp2
          go_roundw
          case rel => exact ⟨q + 1, _, _, by omega, by go_num, rfl, HSH.out.step hwx hwy (by rw [HX.out, HY.out]), hown', hB.trans hB1⟩
          case measure => simp [intOf] <;> omega
        · obtain ⟨b', off', e0', hc'⟩ := (hb.below (by rw [HBe.out]; exact hB)).cells (by rw [HBL.out]; omega)
          subst e0'
          have c2 := hc' q (by rw [HBL.out]; omega)
          rw [hy] at c2
          clear hc'
          have hx0 : x = 0 := by rw [← HX.out]; exact getD_past (by rw [HAL.out]; omega)
          have HX0 := Lib.hid hx0; clear hx0
          clear hx hy
          go_wp2_with (at_builtin; refine wpList_append_u32 _ rfl (.tmp 39) (.tmp 42) rfl B _ L _ rfl rfl hown HSZ.out HLQ.out ?_)
          intro v' w2 hown' hB1
          go_wp2
          go_roundw
          case rel => exact ⟨q + 1, _, _, by omega, by go_num, rfl, HSH.out.step hwx hwy (by rw [HX.out, HY.out, HX0.out, Int.add_zero]), hown', hB.trans hB1⟩
          case measure => simp [intOf] <;> omega
      · have HQM := Lib.hid (show q = max n m by omega)
        clear hx hy
        go_wp2_with (at_builtin; refine wpList_append_u32 _ rfl (.tmp 46) (.tmp 49) rfl B _ L _ rfl rfl hown HSZ.out HLQ.out ?_)
        intro v' w2 hown' hB1
        obtain ⟨hwf, hll, hnum⟩ := HSH.out.done (by rw [HAL.out]; omega) (by rw [HBL.out]; omega)
        obtain ⟨ro, rc, rfl, hsl⟩ := hown'.sl hwf (by rw [hll]; omega)
        have HSL := Lib.hid hsl
        have HNUM := Lib.hid hnum
        have HLL := Lib.hid hll
        clear hsl hnum hown' hwf hll
        go_wp2
        go_ret
        exact ⟨ro, _, rc, _, rfl, HSL.out, HNUM.out, by rw [HLL.out, HQM.out], by rw [Ext, HBe.out]; exact hB.trans hB1⟩
    · by_cases hlt : q < n
      · by_cases h1 : q < m
        · obtain ⟨b, off, e0, hc⟩ := (ha.below (by rw [HBe.out]; exact hB)).cells (by rw [HAL.out]; omega)
          subst e0
          have c1 := hc q (by rw [HAL.out]; omega)
          rw [hx] at c1
          clear hc
          obtain ⟨b', off', e0', hc'⟩ := (hb.below (by rw [HBe.out]; exact hB)).cells (by rw [HBL.out]; omega)
          subst e0'
          have c2 := hc' q (by rw [HBL.out]; omega)
          rw [hy] at c2
          clear hc'
          clear hx hy
          go_wp2_with (at_builtin; refine wpList_append_u32 _ rfl (.tmp 39) (.tmp 42) rfl B _ L _ rfl rfl hown HSZ.out HLQ.out ?_)
          intro v' w2 hown' hB1
          go_wp2
          go_roundw
          case rel => exact ⟨q + 1, _, _, by omega, by go_num, rfl, HSH.out.step hwx hwy (by rw [HX.out, HY.out]), hown', hB.trans hB1⟩
          case measure => simp [intOf] <;> omega
        · obtain ⟨b, off, e0, hc⟩ := (ha.below (by rw [HBe.out]; exact hB)).cells (by rw [HAL.out]; omega)
          subst e0
          have c1 := hc q (by rw [HAL.out]; omega)
          rw [hx] at c1
          clear hc
          have hy0 : y = 0 := by rw [← HY.out]; exact getD_past (by rw [HBL.out]; omega)
          have HY0 := Lib.hid hy0; clear hy0
          clear hx hy
          go_wp2_with (at_builtin; refine wpList_append_u32 _ rfl (.tmp 39) (.tmp 42) rfl B _ L _ rfl rfl hown HSZ.out HLQ.out ?_)
          intro v' w2 hown' hB1
          go_wp2
          go_roundw
          case rel => exact ⟨q + 1, _, _, by omega, by go_num, rfl, HSH.out.step hwx hwy (by rw [HX.out, HY.out, HY0.out, Int.add_zero]), hown', hB.trans hB1⟩
          case measure => simp [intOf] <;> omega
      · have HQM := Lib.hid (show q = max n m by omega)
        clear hx hy
        go_wp2_with (at_builtin; refine wpList_append_u32 _ rfl (.tmp 46) (.tmp 49) rfl B _ L _ rfl rfl hown HSZ.out HLQ.out ?_)
        intro v' w2 hown' hB1
        obtain ⟨hwf, hll, hnum⟩ := HSH.out.done (by rw [HAL.out]; omega) (by rw [HBL.out]; omega)
        obtain ⟨ro, rc, rfl, hsl⟩ := hown'.sl hwf (by rw [hll]; omega)
        have HSL := Lib.hid hsl
        have HNUM := Lib.hid hnum
        have HLL := Lib.hid hll
        clear hsl hnum hown' hwf hll
        go_wp2
        go_ret
        exact ⟨ro, _, rc, _, rfl, HSL.out, HNUM.out, by rw [HLL.out, HQM.out], by rw [Ext, HBe.out]; exact hB.trans hB1⟩

set_option maxRecDepth 100000 in
set_option maxHeartbeats 2000000 in
theorem refSubMag_any (xs ys : List Int) (ao bo : Option Addr) (n m ca cb : Nat) (w : World) (ha : Sl w ao n ca xs) (hb : Sl w bo m cb ys) (hn : n ≤ 1000000000) (hm : m ≤ n) (hle : num ys ≤ num xs) :
    Calls Tryz.prog 79 #[.slice ao n ca, .slice bo m cb] w fun e w' => ∃ ro l cr L, e = .returned (.slice ro l cr) ∧ Sl w' ro l cr L ∧ num L = num xs - num ys ∧ l = n ∧ Ext w w' := by
  have hal := ha.len
  have HAL := Lib.hid hal; clear hal
  have hbl := hb.len
  have HBL := Lib.hid hbl; clear hbl
  have HLE := Lib.hid hle; clear hle
  have hwx := ha.wf
  have hwy := hb.wf
  go_enter Tryz.func79, Tryz.ntmps79
  have hB0 := Below.refl w.heap.size w
  generalize hBe : w.heap.size = B at *
  have HBe := Lib.hid hBe; clear hBe
  go_wp2
  go_loopw [5, 6, 7, 8] (fun v c i _ wr => ∃ (q : Nat) (L : List Int) (cc : Int), q ≤ n ∧ i = .int .i64 q ∧ c = .int .u64 cc ∧ DiffAt xs ys q L cc ∧ Own wr B v L ∧ Below B w wr) (fun _ _ i _ _ => n - (intOf i).toNat)
  case atStart => exact ⟨0, [], 0, Nat.zero_le _, rfl, rfl, DiffAt.start xs ys, Own.nil _ _, hB0⟩
  case round =>
    obtain ⟨q, L, cc, hq, rfl, rfl, hsh, hown, hB⟩ := hrel
    have hlen : L.length = q := hsh.1
    have hc0 := hsh.2.2.1
    have hc1 := hsh.2.2.2.1
    have HSH := Lib.hid hsh; clear hsh
    have hszq : B ≤ wr.heap.size := by have := hB.size; have := HBe.out; omega
    have HSZ := Lib.hid hszq; clear hszq
    have hlq : L.length ≤ 1099511627776 := by omega
    have HLQ := Lib.hid hlq; clear hlq
    by_cases hlt : q < n
    · have hxr := hwx.getD q
      have hyr := hwy.getD q
      obtain ⟨x, hx⟩ : ∃ x, xs.getD q 0 = x := ⟨_, rfl⟩
      obtain ⟨y, hy⟩ : ∃ y, ys.getD q 0 = y := ⟨_, rfl⟩
      rw [hx] at hxr
      rw [hy] at hyr
      obtain ⟨x0, x1⟩ := hxr
      obtain ⟨y0, y1⟩ := hyr
      have HX := Lib.hid hx
      have HY := Lib.hid hy
      clear hlen
      obtain ⟨b, off, e0, hc⟩ := (ha.below (by rw [HBe.out]; exact hB)).cells (by rw [HAL.out]; omega)
      subst e0
      have c1 := hc q (by rw [HAL.out]; omega)
      rw [hx] at c1
      clear hc hx
      by_cases h2 : q < m
      · obtain ⟨b', off', e0', hc'⟩ := (hb.below (by rw [HBe.out]; exact hB)).cells (by rw [HBL.out]; omega)
        subst e0'
        have c2 := hc' q (by rw [HBL.out]; omega)
        rw [hy] at c2
        clear hc' hy
        have HWD := Lib.hid (sub_word' x y cc x0 x1 y0 y1 hc0 hc1)
        go_wp2_with (at_builtin; refine wpList_append_u32 _ rfl (.tmp 33) (.tmp 36) rfl B _ L _ rfl rfl hown HSZ.out HLQ.out ?_)
        intro v' w2 hown' hB1
        go_wp2
        go_roundw
        case rel =>
          exact ⟨q + 1, _, _, by omega, by go_num, rfl, HSH.out.step ⟨Int.emod_nonneg _ (by omega), Int.emod_lt_of_pos _ (by omega)⟩ HWD.out.1 (HWD.out.2.trans (by rw [HX.out, HY.out])), hown', hB.trans hB1⟩
        case measure => simp [intOf] <;> omega
      · have hy0 : y = 0 := by rw [← HY.out]; exact getD_past (by rw [HBL.out]; exact h2)
        clear hy
        have HWD := Lib.hid (sub_word0 x cc x0 x1 hc0 hc1)
        go_wp2_with (at_builtin; refine wpList_append_u32 _ rfl (.tmp 33) (.tmp 36) rfl B _ L _ rfl rfl hown HSZ.out HLQ.out ?_)
        intro v' w2 hown' hB1
        go_wp2
        go_roundw
        case rel =>
          exact ⟨q + 1, _, _, by omega, by go_num, rfl, HSH.out.step ⟨Int.emod_nonneg _ (by omega), Int.emod_lt_of_pos _ (by omega)⟩ HWD.out.1 (HWD.out.2.trans (by rw [HX.out, HY.out, hy0])), hown', hB.trans hB1⟩
        case measure => simp [intOf] <;> omega
    · obtain rfl : q = n := by omega
      have hnum := HSH.out.done (by rw [HAL.out]; exact Nat.le_refl _) (by rw [HBL.out]; exact hm) HLE.out
      obtain ⟨ro, rc, rfl, hsl⟩ := hown.sl HSH.out.2.1 (by rw [hlen]; omega)
      have HSL := Lib.hid hsl
      have HNUM := Lib.hid hnum
      have HLL := Lib.hid hlen
      clear hsl hnum hown hlen
      go_wp2
      go_ret
      exact ⟨ro, _, rc, _, rfl, HSL.out, HNUM.out, HLL.out, by rw [Ext, HBe.out]; exact hB⟩
end Go.Proofs.YtagahbbjljndeaaGreatDoor
