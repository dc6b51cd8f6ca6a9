import Derived.Test.YtapcecjbmcoliaaGrLlU5
import Derived.Deep.CutRange
import Derived.RegionTactic
namespace Go.Proofs.Ytapcecjbmcoliaa
open Go Go.RowKit

set_option maxRecDepth 100000 in
set_option maxHeartbeats 2000000 in
theorem ints_any (ao bo : Option Addr) (n m ca cb : Nat) (l k : List Int) (w : World) (ha : Ns w ao n ca l) (hb : Ns w bo m cb k) (hn : n ≤ 1000000) :
    Calls Try.prog 37 #[.slice ao n ca, .slice bo m cb] w fun e w' => e = .returned (.bool (decide (l = k))) ∧ Ext w w' := by
  have HA := Lib.hid ha
  have HB := Lib.hid hb
  have HLA := Lib.hid ha.len
  have HLB := Lib.hid hb.len
  obtain ⟨R, hR⟩ : ∃ R, decide (l = k) = R := ⟨_, rfl⟩
  rw [hR]
  have HR := Lib.hid hR
  clear hR ha hb
  by_cases hnm : n = m
  · subst hnm
    go_enter Try.func37, Try.ntmps37
    go_wp2
    go_loopw [5] (fun iv wr => ∃ j : Nat, j ≤ n ∧ iv = .int .i64 (j : Int) ∧ Hid (∀ i, i < j → l.getD i 0 = k.getD i 0) ∧ Ext w wr)
      (fun iv _ => n - (intOf iv).toNat)
    case atStart => exact ⟨0, Nat.zero_le _, rfl, Lib.hid (fun i h => absurd h (Nat.not_lt_zero _)), Ext.refl w⟩
    case round =>
      obtain ⟨j, hj, rfl, HE, hEx⟩ := hrel
      have HEX := Lib.hid hEx
      have HEX1 := Lib.hid (HEX.out.trans (Below.refl _ _).drew)
      by_cases hlt : j < n
      · obtain ⟨b1, o1, rfl, hc1⟩ := (HA.out.below hEx).cells (by omega)
        obtain ⟨b2, o2, rfl, hc2⟩ := (HB.out.below hEx).cells (by omega)
        have k1 := hc1 j hlt
        have k2 := hc2 j hlt
        obtain ⟨x, hx⟩ : ∃ x, l.getD j 0 = x := ⟨_, rfl⟩
        obtain ⟨y, hy⟩ : ∃ y, k.getD j 0 = y := ⟨_, rfl⟩
        rw [hx] at k1
        rw [hy] at k2
        have HXY := Lib.hid (And.intro hx hy)
        have hji : (j : Int) < (n : Int) := by omega
        clear hc1 hc2 hx hy hEx
        go_upto_region 6 with fail
        first | go_region | fail "r6"
        have HEX2 := Lib.hid (show Ext w wr.drew from HEX1.out)
        by_cases hxy : x = y
        · subst hxy
          have HE2 := Lib.hid (show ∀ i, i < j + 1 → l.getD i 0 = k.getD i 0 from fun i hi => by
            rcases Nat.lt_or_ge i j with h | h
            · exact HE.out i h
            · obtain rfl : i = j := by omega
              rw [HXY.out.1, HXY.out.2])
          go_wp2
          go_roundw
          case rel => exact ⟨j + 1, by omega, by go_num, HE2, HEX2.out⟩
          case measure => simp [intOf]; omega
        · have hr : R = false := by
            rw [← HR.out]
            refine decide_eq_false fun e => hxy ?_
            rw [← HXY.out.1, ← HXY.out.2, e]
          subst hr
          go_wp2
          go_ret
          exact ⟨rfl, HEX2.out⟩
      · obtain rfl : j = n := by omega
        have hr : R = true := by
          rw [← HR.out]
          refine decide_eq_true (List.ext_getElem (by rw [HLA.out, HLB.out]) fun i h1 h2 => ?_)
          have := HE.out i (by rw [← HLA.out]; exact h1)
          simpa [List.getD, h1, h2] using this
        subst hr
        clear HE hEx
        go_wp2
        go_ret
        exact ⟨rfl, HEX.out⟩
  · have hr : R = false := by
      rw [← HR.out]
      refine decide_eq_false fun e => hnm ?_
      rw [← HLA.out, ← HLB.out, e]
    subst hr
    have hnm' : (n : Int) ≠ (m : Int) := by omega
    go_enter Try.func37, Try.ntmps37
    go_wp2
    go_ret
    exact ⟨rfl, Ext.refl _⟩
end Go.Proofs.Ytapcecjbmcoliaa
