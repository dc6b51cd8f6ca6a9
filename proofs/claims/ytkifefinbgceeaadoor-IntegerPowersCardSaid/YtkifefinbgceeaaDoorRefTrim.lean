/- What the reference's trim does: a copy without the leading zeros. -/
import Derived.Test.YtkifefinbgceeaaDoorOut
namespace Go.Proofs.YtkifefinbgceeaaDoor
open Go.RowKit

set_option maxRecDepth 100000 in
set_option maxHeartbeats 2000000 in
theorem refTrim_any (ao : Option Addr) (n cap : Nat) (zs : List Int) (w : World) (h : Sl w ao n cap zs) :
    Calls Tryd.prog 58 #[.slice ao n cap] w fun e w' => ∃ ro k rc, e = .returned (.slice ro k rc) ∧ Sl w' ro k rc (limbs (num zs).toNat) ∧ k ≤ n ∧ Below w.heap.size w w' := by
  have hln := h.len
  have HL := Lib.hid hln; clear hln
  have hbig := h.big
  have fin : ∀ t, tlen zs n = t → t ≤ n ∧ zs.take t = limbs (num zs).toNat := by
    rintro t rfl
    have e := take_tlen h.wf n (by rw [HL.out]; exact Nat.le_refl _)
    rw [List.take_of_length_le (i := n) (by rw [HL.out]; exact Nat.le_refl _)] at e
    exact ⟨tlen_le _ _, e⟩
  have FIN0 := Lib.hid fin; clear fin
  go_enter Tryd.func58, Tryd.ntmps58
  go_wp2
  go_loop [3] (fun i => ∃ k : Nat, k ≤ n ∧ i = .int .i64 k ∧ tlen zs n = tlen zs k) (fun i => (intOf i).toNat)
  case atStart => exact ⟨n, Nat.le_refl _, rfl, rfl⟩
  case round =>
    obtain ⟨k, hk, rfl, ht⟩ := hrel
    have HT := Lib.hid ht; clear ht
    by_cases h0 : 0 < k
    · obtain ⟨m, rfl⟩ : ∃ m, k = m + 1 := ⟨k - 1, by omega⟩
      obtain ⟨b, off, e0, hc⟩ := h.cells (by rw [HL.out]; omega)
      have hcell := hc m (by rw [HL.out]; omega)
      clear hc
      subst e0
      go_wp2
      · have h1 : (zs[m]?.getD 0 == 0) = true := by assumption
        go_round
        case rel => exact ⟨m, by omega, by go_num, by rw [HT.out, tlen, if_pos (by simpa [List.getD] using h1)]⟩
        case measure => simp [intOf]
      · have h1 : (zs[m]?.getD 0 == 0) = false := by assumption
        have hfin := FIN0.out (m + 1) (by rw [HT.out, tlen, if_neg (by simpa [List.getD] using h1)])
        clear h1 hcell
        have FIN := Lib.hid hfin
        have hj' := hfin.1
        clear hfin
        have hlen := HL.out
        have hB0 := Below.refl w.heap.size w
        generalize hBe : w.heap.size = B at *
        have HB := Lib.hid hBe; clear hBe
        go_wp2
        go_loopw [4, 5] (fun v i wr => ∃ j : Nat, j ≤ (m + 1) ∧ i = .int .i64 j ∧ Own wr B v (zs.take j) ∧ Below B w wr) (fun _ i _ => (m + 1) - (intOf i).toNat)
        case atStart => exact ⟨0, Nat.zero_le _, rfl, Own.nil _ _, hB0⟩
        case round =>
          obtain ⟨j, hj, rfl, hown, hB⟩ := hrel
          by_cases hlt : j < (m + 1)
          · obtain ⟨b2, off2, e2, hc⟩ := (h.below (by rw [HB.out]; exact hB)).cells (by omega)
            cases e2
            have hcell := hc j (by omega)
            clear hc
            have hsz : B ≤ wr.heap.size := by have := hB.size; have := HB.out; omega
            have htl : (zs.take j).length ≤ 1099511627776 := by rw [List.length_take]; omega
            have HSZ := Lib.hid hsz; clear hsz
            have HTL := Lib.hid htl; clear htl
            go_wp2_with (at_builtin; refine wpList_append_u32 _ rfl (.tmp 25) (.tmp 30) rfl B _ (zs.take j) _ rfl rfl hown HSZ.out HTL.out ?_)
            intro v' w1 hown' hB1
            go_wp2
            go_roundw
            case rel =>
              refine ⟨j + 1, by omega, by go_num, ?_, hB.trans hB1⟩
              rw [take_succ_getD _ _ (by omega)]
              exact hown'
            case measure => simp [intOf] <;> omega
          · obtain rfl : j = (m + 1) := by omega
            have e1 : (zs.take (m + 1)).length = m + 1 := by rw [List.length_take]; omega
            obtain ⟨ro, rc, rfl, hsl⟩ := hown.sl (h.wf.take _) (by omega)
            rw [e1] at hsl
            rw [FIN.out.2] at hsl
            go_wp2
            go_ret
            rw [e1]
            exact ⟨ro, m + 1, rc, rfl, hsl, hj', by rw [HB.out]; exact hB⟩
    · obtain rfl : k = 0 := by omega
      have hfin := FIN0.out 0 (by rw [HT.out]; rfl)
      have FIN := Lib.hid hfin
      have hj' := hfin.1
      clear hfin
      have hlen := HL.out
      have hB0 := Below.refl w.heap.size w
      generalize hBe : w.heap.size = B at *
      have HB := Lib.hid hBe; clear hBe
      go_wp2
      go_loopw [4, 5] (fun v i wr => ∃ j : Nat, j ≤ 0 ∧ i = .int .i64 j ∧ Own wr B v (zs.take j) ∧ Below B w wr) (fun _ i _ => 0 - (intOf i).toNat)
      case atStart => exact ⟨0, Nat.zero_le _, rfl, Own.nil _ _, hB0⟩
      case round =>
        obtain ⟨j, hj, rfl, hown, hB⟩ := hrel
        by_cases hlt : j < 0
        · omega
        · obtain rfl : j = 0 := by omega
          have e1 : (zs.take 0).length = 0 := by rw [List.length_take]; omega
          obtain ⟨ro, rc, rfl, hsl⟩ := hown.sl (h.wf.take _) (by omega)
          rw [e1] at hsl
          rw [FIN.out.2] at hsl
          go_wp2
          go_ret
          exact ⟨ro, 0, rc, rfl, hsl, hj', by rw [HB.out]; exact hB⟩
end Go.Proofs.YtkifefinbgceeaaDoor
