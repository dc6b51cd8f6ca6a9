import Derived.Test.YtapcecjbmcoliaaGrLlU21
import Derived.Test.YtapcecjbmcoliaaGrLlU44
namespace Go.Proofs.Ytapcecjbmcoliaa
open Go Go.RowKit

set_option maxRecDepth 100000 in
set_option maxHeartbeats 8000000 in
theorem lists_same (ao bo : Option Addr) (n ca cb : Nat) (M : List (List Int)) (w : World) (h : Nss w ao n ca M) (h' : Nss w bo n cb M) (hn : n ≤ 1000) (hr : ∀ i, i < n → (M.getD i []).length ≤ 1000) :
    Calls Try.prog 16 #[.slice ao n ca, .slice bo n cb] w fun e w' => e = .returned (.bool true) ∧ Ext w w' := by
  have HH := Lib.hid h
  have HH' := Lib.hid h'
  have HR := Lib.hid hr
  clear h h' hr
  have h0 : ((n : Int) != n) = false := by simp
  go_enter Try.func16, Try.ntmps16
  go_wp2
  go_loopw [5] (fun ix wr => ∃ (j : Nat), j ≤ n ∧ ix = .int .i64 j ∧ Ext w wr)
    (fun ix _ => n - (intOf ix).toNat)
  case atStart => exact ⟨0, Nat.zero_le _, rfl, Ext.refl _⟩
  case round =>
    obtain ⟨j, hj, rfl, hE⟩ := hrel
    by_cases hlt : j < n
    · obtain ⟨b, off, rfl, hc⟩ := (HH.out.below hE).rows (by omega)
      obtain ⟨b', off', rfl, hc'⟩ := (HH'.out.below hE).rows (by omega)
      obtain ⟨ri, ci, hc1, hc2⟩ := hc j hlt
      obtain ⟨ri', ci', hc1', hc2'⟩ := hc' j hlt
      have CI := Lib.hid (fun wx (hx : Ext wr wx) => ints_any ri ri' _ _ ci ci' _ _ wx (hc2.below hx) (hc2'.below hx) (by have := HR.out j hlt; omega))
      have HE := Lib.hid hE
      simp only [decide_true] at CI
      obtain ⟨p, hp0⟩ : ∃ p, (M.getD j []).length = p := ⟨_, rfl⟩
      rw [hp0] at hc1 hc1' CI
      have hji : (j : Int) < (n : Int) := by omega
      clear hc hc' hc2 hc2' hp0 hE
      have HC1 := Lib.hid (show ∀ wx, Ext wr wx → wx.cell? ⟨b, off + j, none⟩ = some (.slice ri p ci) ∧ wx.cell? ⟨b', off' + j, none⟩ = some (.slice ri' p ci') from fun wx h => ⟨(h.cell (lt_of_cell hc1)).trans hc1, (h.cell (lt_of_cell hc1')).trans hc1'⟩)
      go_upto_region 6 with fail
      first | (go_region_with (first | (go_at_call 37; refine (CI.out _ (by repeat (first | exact Ext.refl _ | exact Below.refl _ _ | refine Below.drew ?_))).mono ?_; rintro e w9 ⟨rfl, hw9⟩))) | fail "r6"
      all_goals
        have HE9 := Lib.hid (HE.out.trans (Ext.trans (by repeat (first | exact Ext.refl _ | exact Below.refl _ _ | refine Below.drew ?_)) hw9))
        go_wp2
        go_roundw
      any_goals (simp [intOf]; omega)
      all_goals exact ⟨j + 1, by omega, by go_num, HE9.out⟩
    · obtain rfl : j = n := by omega
      go_wp2
      go_ret
      exact ⟨rfl, hE⟩
end Go.Proofs.Ytapcecjbmcoliaa
