import Derived.Test.YthicfkeiggcjjaaGreatDoorEcLU15
import Derived.Deep.CutRange
import Derived.RegionTactic
import Derived.Test.YthicfkeiggcjjaaGreatDoorEcLU27
namespace Go.Proofs.YthicfkeiggcjjaaGreatDoor
open Go Go.RowKit

set_option maxRecDepth 100000 in
set_option maxHeartbeats 2000000 in
theorem ints_any (ao bo : Option Addr) (n m ca cb : Nat) (l k : List Int) (w : World) (ha : Ns w ao n ca l) (hb : Ns w bo m cb k) (hn : n ≤ 1000000) :
    Calls Tryz.prog 16 #[.slice ao n ca, .slice bo m cb] w fun e w' => e = .returned (.bool (decide (l = k))) ∧ Ext w w' := by
  have HA := Lib.hid ha
  have HB := Lib.hid hb
  have HLA := Lib.hid ha.len
  have HLB := Lib.hid hb.len
  obtain ⟨R, hR⟩ : ∃ R, decide (l = k) = R := ⟨_, rfl⟩
  rw [hR]
  have HR := Lib.hid hR
  clear hR ha hb
  by_cases hnm : n = m
  · subst hnm
    go_enter Tryz.func16, Tryz.ntmps16
    go_wp2
    go_loopw [5] (fun iv wr => ∃ j : Nat, j ≤ n ∧ iv = .int .i64 (j : Int) ∧ Hid (∀ i, i < j → l.getD i 0 = k.getD i 0) ∧ Ext w wr)
      (fun iv _ => n - (intOf iv).toNat)
    case atStart => exact ⟨0, Nat.zero_le _, rfl, Lib.hid (fun i h => absurd h (Nat.not_lt_zero _)), Ext.refl w⟩
    case round =>
      obtain ⟨j, hj, rfl, HE, hEx⟩ := hrel
      have HEX := Lib.hid hEx
      have HEX1 := Lib.hid (HEX.out.trans (Below.refl _ _).drew)
      by_cases hlt : j < n
      · obtain ⟨b1, o1, rfl, hc1⟩ := (HA.out.below hEx).cells (by omega)
        obtain ⟨b2, o2, rfl, hc2⟩ := (HB.out.below hEx).cells (by omega)
        have k1 := hc1 j hlt
        have k2 := hc2 j hlt
        obtain ⟨x, hx⟩ : ∃ x, l.getD j 0 = x := ⟨_, rfl⟩
        obtain ⟨y, hy⟩ : ∃ y, k.getD j 0 = y := ⟨_, rfl⟩
        rw [hx] at k1
        rw [hy] at k2
        have HXY := Lib.hid (And.intro hx hy)
        have hji : (j : Int) < (n : Int) := by omega
        clear hc1 hc2 hx hy hEx
        go_upto_region 6 with fail
        first | go_region | fail "r6"
        have HEX2 := Lib.hid (show Ext w wr.drew from HEX1.out)
        by_cases hxy : x = y
        · subst hxy
          have HE2 := Lib.hid (show ∀ i, i < j + 1 → l.getD i 0 = k.getD i 0 from fun i hi => by
            rcases Nat.lt_or_ge i j with h | h
            · exact HE.out i h
            · obtain rfl : i = j := by omega
              rw [HXY.out.1, HXY.out.2])
          go_wp2
          go_roundw
          case rel => exact ⟨j + 1, by omega, by go_num, HE2, HEX2.out⟩
          case measure => simp [intOf]; omega
        · have hr : R = false := by
            rw [← HR.out]
            refine decide_eq_false fun e => hxy ?_
            rw [← HXY.out.1, ← HXY.out.2, e]
          subst hr
          go_wp2
          go_ret
          exact ⟨rfl, HEX2.out⟩
      · obtain rfl : j = n := by omega
        have hr : R = true := by
          rw [← HR.out]
          refine decide_eq_true (List.ext_getElem (by rw [HLA.out, HLB.out]) fun i h1 h2 => ?_)
          have := HE.out i (by rw [← HLA.out]; exact h1)
          simpa [List.getD, h1, h2] using this
        subst hr
        clear HE hEx
        go_wp2
        go_ret
        exact ⟨rfl, HEX.out⟩
  · have hr : R = false := by
      rw [← HR.out]
      refine decide_eq_false fun e => hnm ?_
      rw [← HLA.out, ← HLB.out, e]
    subst hr
    have hnm' : (n : Int) ≠ (m : Int) := by omega
    go_enter Tryz.func16, Tryz.ntmps16
    go_wp2
    go_ret
    exact ⟨rfl, Ext.refl _⟩
end Go.Proofs.YthicfkeiggcjjaaGreatDoor

namespace Go.Proofs.YthicfkeiggcjjaaGreatDoor
open Go Go.RowKit

set_option maxRecDepth 100000 in
set_option maxHeartbeats 8000000 in
theorem twinInts_any (ao : Option Addr) (n cap : Nat) (l : List Int) (w : World) (h : Ns w ao n cap l) (hn : n ≤ 1000000) :
    Calls Tryz.prog 10 #[.slice ao n cap] w fun e w' => ∃ v, e = .returned v ∧ OZ w' w.heap.size v l ∧ Ext w w' := by
  have HL := Lib.hid h.len
  have HH := Lib.hid h
  clear h
  go_enter Tryz.func10, Tryz.ntmps10
  obtain ⟨C, hCe⟩ : ∃ C, w.heap.size = C := ⟨_, rfl⟩
  have HEX := Lib.hid (show ∀ wx, Below C w wx → Ext w wx from fun wx h => by rw [← hCe] at h; exact h)
  have hC0 : C ≤ w.heap.size := by omega
  have HCE := Lib.hid hCe
  clear hCe
  go_wp2
  go_loopw [3, 4] (fun pv ix wr => ∃ (j : Nat), j ≤ n ∧ ix = .int .i64 j ∧ OZ wr C pv (l.take j) ∧ Below C w wr ∧ C ≤ wr.heap.size)
    (fun _ ix _ => n - (intOf ix).toNat)
  case atStart => exact ⟨0, Nat.zero_le _, rfl, OZ.nil _ C, Below.refl C w, hC0⟩
  case round =>
    obtain ⟨j, hj, rfl, hp, hE, hCs⟩ := hrel
    by_cases hlt : j < n
    · have h := HH.out.below (HEX.out _ hE)
      obtain ⟨b, off, rfl, hc⟩ := h.cells (by omega)
      have hcj := hc j hlt
      obtain ⟨p, hp0⟩ : ∃ p, l.getD j 0 = p := ⟨_, rfl⟩
      rw [hp0] at hcj
      have hnp : l.take (j + 1) = l.take j ++ [p] := by
        rw [List.take_succ_eq_append_getElem (by rw [HL.out]; exact hlt), ← hp0]
        simp [List.getD, show j < l.length by rw [HL.out]; exact hlt]
      have HNP := Lib.hid hnp
      have hlp : (l.take j).length ≤ 1000000 := by rw [List.length_take]; omega
      clear hc h hp0 hnp
      go_wp2_with (at_builtin; refine wpList_append_z _ rfl (.tmp 11) (.tmp 16) rfl C _ (l.take j) p rfl rfl hp hCs hlp ?_)
      intro pv' w2 hp2 hB2
      have hE2 := hE.trans hB2
      have hsz := hB2.size
      rw [← HNP.out] at hp2
      have R := Lib.hid (And.intro hp2 hE2)
      clear hp hp2
      go_wp2
      go_roundw
      case rel => exact ⟨j + 1, by omega, by go_num, R.out.1, R.out.2, by omega⟩
      case measure => simp [intOf] <;> omega
    · obtain rfl : j = n := by omega
      rw [List.take_of_length_le (by rw [HL.out]; exact Nat.le_refl _)] at hp
      have R := Lib.hid (And.intro hp (HEX.out _ hE))
      clear hp hE
      go_wp2
      go_ret
      exact ⟨_, rfl, by rw [HCE.out]; exact R.out.1, R.out.2⟩

set_option maxRecDepth 100000 in
set_option maxHeartbeats 8000000 in
theorem twinLists_any (ao : Option Addr) (n cap : Nat) (M : List (List Int)) (w : World) (h : Nss w ao n cap M) (hn : n ≤ 1000) (hr : ∀ i, i < n → (M.getD i []).length ≤ 1000) :
    Calls Tryz.prog 9 #[.slice ao n cap] w fun e w' => ∃ bo bc, e = .returned (.slice bo n bc) ∧ Nss w' bo n bc M ∧ Ext w w' := by
  have HL := Lib.hid h.len
  have HH := Lib.hid h
  have HR := Lib.hid hr
  clear h hr
  go_enter Tryz.func9, Tryz.ntmps9
  obtain ⟨C, hCe⟩ : ∃ C, w.heap.size = C := ⟨_, rfl⟩
  have HEX := Lib.hid (show ∀ wx, Below C w wx → Ext w wx from fun wx h => by rw [← hCe] at h; exact h)
  have hC0 : C ≤ w.heap.size := by omega
  clear hCe
  go_wp2
  go_loopw [3, 4] (fun pv ix wr => ∃ (j : Nat) (rs : List Value), j ≤ n ∧ ix = .int .i64 j ∧ Hid (RS wr C pv rs (M.take j)) ∧ Below C w wr ∧ C ≤ wr.heap.size)
    (fun _ ix _ => n - (intOf ix).toNat)
  case atStart => exact ⟨0, [], Nat.zero_le _, rfl, Lib.hid (RS.nil _ C), Below.refl C w, hC0⟩
  case round =>
    obtain ⟨j, rs, hj, rfl, hp, hE, hCs⟩ := hrel
    by_cases hlt : j < n
    · have h := HH.out.below (HEX.out _ hE)
      obtain ⟨b, off, rfl, hc⟩ := h.rows (by omega)
      obtain ⟨ri, ci, hc1, hc2⟩ := hc j hlt
      obtain ⟨p, hp0⟩ : ∃ p, M.getD j [] = p := ⟨_, rfl⟩
      rw [hp0] at hc1 hc2
      have hnp : M.take (j + 1) = M.take j ++ [p] := by
        rw [List.take_succ_eq_append_getElem (by rw [HL.out]; exact hlt), ← hp0]
        simp [List.getD, show j < M.length by rw [HL.out]; exact hlt]
      have HNP := Lib.hid hnp
      have hpl : p.length ≤ 1000 := by rw [← hp0]; exact HR.out j hlt
      have HC := Lib.hid (twinInts_any ri p.length ci p wr hc2 (by omega))
      have HBE := Lib.hid hE
      have hlr : rs.length = j := by
        have := hp.out.len
        rw [List.length_take, HL.out] at this
        omega
      have HLR := Lib.hid hlr
      clear hc h hp0 hnp hc2 hE hpl hlr
      go_wp2_with fail
      refine HC.out.mono ?_
      rintro e w1 ⟨yv, rfl, hoz, hE1⟩
      obtain ⟨yo, yc, rfl⟩ := hoz.slE
      have hrs1 := hp.out.below hE1
      have hC1 : C ≤ w1.heap.size := Nat.le_trans hCs hE1.size
      have HB1 := Lib.hid (HBE.out.trans (hE1.mono hCs))
      have hfar := hp.out.lt
      have hl6 : rs.length ≤ 1000000 := by rw [HLR.out]; omega
      clear HC hE1 hp HBE
      go_wp2_with (at_builtin; refine wpList_append_rs _ rfl (.tmp 11) (.tmp 17) rfl C wr.heap.size _ rs (M.take j) _ p rfl rfl hrs1 hoz hCs hfar hC1 hl6 ?_)
      intro pv' w2 hp2 hB2
      have hE2 := HB1.out.trans hB2
      have hsz := hB2.size
      rw [← HNP.out] at hp2
      have R := Lib.hid (And.intro (Lib.hid hp2) hE2)
      clear hp2 hrs1 hoz hfar hE2 hB2
      go_wp2
      go_roundw
      case rel => exact ⟨j + 1, _, by omega, by go_num, R.out.1, R.out.2, by omega⟩
      case measure => simp [intOf] <;> omega
    · obtain rfl : j = n := by omega
      have hp2 := hp.out
      rw [List.take_of_length_le (by rw [HL.out]; exact Nat.le_refl _)] at hp2
      obtain ⟨bo, bc, rfl, hss⟩ := hp2.nss
      rw [HL.out] at hss ⊢
      have R := Lib.hid (And.intro hss (HEX.out _ hE))
      clear hp hp2 hss hE
      go_wp2
      go_ret
      exact ⟨_, _, rfl, R.out.1, R.out.2⟩

set_option maxRecDepth 100000 in
set_option maxHeartbeats 8000000 in
theorem lists_same (ao bo : Option Addr) (n ca cb : Nat) (M : List (List Int)) (w : World) (h : Nss w ao n ca M) (h' : Nss w bo n cb M) (hn : n ≤ 1000) (hr : ∀ i, i < n → (M.getD i []).length ≤ 1000) :
    Calls Tryz.prog 15 #[.slice ao n ca, .slice bo n cb] w fun e w' => e = .returned (.bool true) ∧ Ext w w' := by
  have HH := Lib.hid h
  have HH' := Lib.hid h'
  have HR := Lib.hid hr
  clear h h' hr
  have h0 : ((n : Int) != n) = false := by simp
  go_enter Tryz.func15, Tryz.ntmps15
  go_wp2
  go_loopw [5] (fun ix wr => ∃ (j : Nat), j ≤ n ∧ ix = .int .i64 j ∧ Ext w wr)
    (fun ix _ => n - (intOf ix).toNat)
  case atStart => exact ⟨0, Nat.zero_le _, rfl, Ext.refl _⟩
  case round =>
    obtain ⟨j, hj, rfl, hE⟩ := hrel
    by_cases hlt : j < n
    · obtain ⟨b, off, rfl, hc⟩ := (HH.out.below hE).rows (by omega)
      obtain ⟨b', off', rfl, hc'⟩ := (HH'.out.below hE).rows (by omega)
      obtain ⟨ri, ci, hc1, hc2⟩ := hc j hlt
      obtain ⟨ri', ci', hc1', hc2'⟩ := hc' j hlt
      have CI := Lib.hid (fun wx (hx : Ext wr wx) => ints_any ri ri' _ _ ci ci' _ _ wx (hc2.below hx) (hc2'.below hx) (by have := HR.out j hlt; omega))
      have HE := Lib.hid hE
      simp only [decide_true] at CI
      obtain ⟨p, hp0⟩ : ∃ p, (M.getD j []).length = p := ⟨_, rfl⟩
      rw [hp0] at hc1 hc1' CI
      have hji : (j : Int) < (n : Int) := by omega
      clear hc hc' hc2 hc2' hp0 hE
      have HC1 := Lib.hid (show ∀ wx, Ext wr wx → wx.cell? ⟨b, off + j, none⟩ = some (.slice ri p ci) ∧ wx.cell? ⟨b', off' + j, none⟩ = some (.slice ri' p ci') from fun wx h => ⟨(h.cell (lt_of_cell hc1)).trans hc1, (h.cell (lt_of_cell hc1')).trans hc1'⟩)
      go_upto_region 6 with fail
      first | (go_region_with (first | (go_at_call 16; refine (CI.out _ (by repeat (first | exact Ext.refl _ | exact Below.refl _ _ | refine Below.drew ?_))).mono ?_; rintro e w9 ⟨rfl, hw9⟩))) | fail "r6"
      all_goals
        have HE9 := Lib.hid (HE.out.trans (Ext.trans (by repeat (first | exact Ext.refl _ | exact Below.refl _ _ | refine Below.drew ?_)) hw9))
        go_wp2
        go_roundw
      any_goals (simp [intOf]; omega)
      all_goals exact ⟨j + 1, by omega, by go_num, HE9.out⟩
    · obtain rfl : j = n := by omega
      go_wp2
      go_ret
      exact ⟨rfl, hE⟩
end Go.Proofs.YthicfkeiggcjjaaGreatDoor
