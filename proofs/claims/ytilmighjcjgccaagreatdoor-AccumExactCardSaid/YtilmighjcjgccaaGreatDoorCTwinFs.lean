/- Copies of lists of floats, and whether two lists are the same. -/
import Derived.Test.YtilmighjcjgccaaGreatDoorHi
namespace Go.Proofs.YtilmighjcjgccaaGreatDoor
open Go Go.RowKit

set_option maxRecDepth 100000 in
set_option maxHeartbeats 8000000 in
theorem twinFloats_any (ao : Option Addr) (n cap : Nat) (l : List Nat) (w : World) (h : Fs w ao n cap l) (hn : n ≤ 1000000) :
    Calls Tryz.prog 66 #[.slice ao n cap] w fun e w' => ∃ ro cr, e = .returned (.slice ro n cr) ∧ Fs w' ro n cr l ∧ Ext w w' := by
  have HL := Lib.hid h.len
  have HH := Lib.hid h
  clear h
  go_enter Tryz.func66, Tryz.ntmps66
  obtain ⟨C, hCe⟩ : ∃ C, w.heap.size = C := ⟨_, rfl⟩
  have HEX := Lib.hid (show ∀ wx, Below C w wx → Ext w wx from fun wx h => by rw [← hCe] at h; exact h)
  have hC0 : C ≤ w.heap.size := by omega
  clear hCe
  go_wp2
  go_loopw [3, 4] (fun pv ix wr => ∃ (j : Nat), j ≤ n ∧ ix = .int .i64 j ∧ OF wr C pv (l.take j) ∧ Below C w wr ∧ C ≤ wr.heap.size)
    (fun _ ix _ => n - (intOf ix).toNat)
  case atStart => exact ⟨0, Nat.zero_le _, rfl, OF.nil _ C, Below.refl C w, hC0⟩
  case round =>
    obtain ⟨j, hj, rfl, hp, hE, hCs⟩ := hrel
    by_cases hlt : j < n
    · have h := HH.out.below (HEX.out _ hE)
      obtain ⟨b, off, rfl, hc⟩ := h.cells (by omega)
      have hcj := hc j hlt
      obtain ⟨p, hp0⟩ : ∃ p, l.getD j 0 = p := ⟨_, rfl⟩
      rw [hp0] at hcj
      have hnp : l.take (j + 1) = l.take j ++ [p] := by
        rw [List.take_succ_eq_append_getElem (by rw [HL.out]; exact hlt), ← hp0]
        simp [List.getD, show j < l.length by rw [HL.out]; exact hlt]
      have HNP := Lib.hid hnp
      have hlp : (l.take j).length ≤ 1000000 := by rw [List.length_take]; omega
      clear hc h hp0 hnp
      go_wp2_with (at_builtin; refine wpList_append_float _ rfl (.tmp 11) (.tmp 16) rfl C _ (l.take j) p rfl rfl hp hCs hlp ?_)
      intro pv' w2 hp2 hB2
      have hE2 := hE.trans hB2
      have hsz := hB2.size
      rw [← HNP.out] at hp2
      have R := Lib.hid (And.intro hp2 hE2)
      clear hp hp2
      go_wp2
      go_roundw
      case rel => exact ⟨j + 1, by omega, by go_num, R.out.1, R.out.2, by omega⟩
      case measure => simp [intOf] <;> omega
    · obtain rfl : j = n := by omega
      rw [List.take_of_length_le (by rw [HL.out]; exact Nat.le_refl _)] at hp
      obtain ⟨po, pc, hpv, hps⟩ := hp.form HH.out.lt
      rw [HL.out] at hpv hps
      subst hpv
      have R := Lib.hid (And.intro hps (HEX.out _ hE))
      go_wp2
      go_ret
      exact ⟨_, _, rfl, R.out.1, R.out.2⟩

set_option maxRecDepth 100000 in
set_option maxHeartbeats 8000000 in
theorem kitFloats_any (ao bo : Option Addr) (n cap cb : Nat) (l : List Nat) (w : World) (h : Fs w ao n cap l) (h' : Fs w bo n cb l) (hn : n ≤ 1000000) :
    Calls Tryz.prog 73 #[.slice ao n cap, .slice bo n cb] w fun e w' => e = .returned (.bool true) ∧ Ext w w' := by
  have h0 : ((n : Int) != n) = false := by simp
  go_enter Tryz.func73, Tryz.ntmps73
  go_wp2
  go_loopw [5] (fun ix wr => ∃ (j : Nat), j ≤ n ∧ ix = .int .i64 j ∧ Ext w wr)
    (fun ix _ => n - (intOf ix).toNat)
  case atStart => exact ⟨0, Nat.zero_le _, rfl, Ext.refl _⟩
  case round =>
    obtain ⟨j, hj, rfl, hE⟩ := hrel
    by_cases hlt : j < n
    · obtain ⟨b, off, rfl, hc⟩ := (h.below hE).cells (by omega)
      obtain ⟨b', off', rfl, hc'⟩ := (h'.below hE).cells (by omega)
      have hcj := hc j hlt
      have hcj' := hc' j hlt
      obtain ⟨p, hp⟩ : ∃ p, l.getD j 0 = p := ⟨_, rfl⟩
      rw [hp] at hcj hcj'
      clear hc hc' hp
      have R := Lib.hid hE
      have hne : ((p : Int) != (p : Int)) = false := by simp
      go_wp2
      go_quiet (fail)
      go_wp2
      go_roundw
      case rel => exact ⟨j + 1, by omega, by go_num, Ext.trans R.out (below_drewN (Below.refl _ _) _)⟩
      case measure => simp [intOf] <;> omega
    · obtain rfl : j = n := by omega
      go_wp2
      go_ret
      exact ⟨rfl, hE⟩
end Go.Proofs.YtilmighjcjgccaaGreatDoor
