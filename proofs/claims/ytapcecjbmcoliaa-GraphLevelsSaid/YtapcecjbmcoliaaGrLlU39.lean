import Derived.Test.YtapcecjbmcoliaaGrLlU38
import Derived.StillTailTactics
namespace Go.Proofs.Ytapcecjbmcoliaa
open Go Go.RowKit

set_option maxRecDepth 100000 in
set_option maxHeartbeats 4000000 in
theorem ascending_any (ao : Option Addr) (n cap : Nat) (l : List Nat) (w : World) (h : Ns w ao n cap (castZ l)) (hu : l.Pairwise (· < ·)) (hn : n ≤ 1000000) :
    Calls Try.prog 23 #[.slice ao n cap] w fun e w' => e = .returned (.bool true) ∧ Ext w w' := by
  have HL := Lib.hid (show l.length = n by rw [← castZ_len]; exact h.len)
  have HH := Lib.hid h
  have HU := Lib.hid hu
  clear h hu
  go_enter Try.func23, Try.ntmps23
  go_wp2
  go_loopw [3] (fun iv wr => ∃ i : Nat, 1 ≤ i ∧ (i ≤ n ∨ i = 1) ∧ iv = .int .i64 (i : Int) ∧ Hid (Ext w wr)) (fun iv _ => n + 1 - (intOf iv).toNat)
  case atStart => exact ⟨1, Nat.le_refl _, Or.inr rfl, rfl, Lib.hid (Ext.refl _)⟩
  case round =>
    obtain ⟨i, h1, h2, rfl, hE⟩ := hrel
    by_cases hlt : i < n
    · have hii : (i : Int) < (n : Int) := by omega
      obtain ⟨b, off, rfl, hc⟩ := (HH.out.below hE.out).cells (by omega)
      have k1 := hc i hlt
      have k2 := hc (i - 1) (by omega)
      rw [castZ_get (by rw [HL.out]; exact hlt)] at k1
      rw [castZ_get (by rw [HL.out]; omega)] at k2
      have hgt : l.getD (i - 1) 0 < l.getD i 0 := by
        have h3 : i < l.length := by rw [HL.out]; exact hlt
        have h4 : i - 1 < l.length := by omega
        have := List.pairwise_iff_getElem.1 HU.out (i - 1) i h4 h3 (by omega)
        simp only [List.getD, List.getElem?_eq_getElem h3, List.getElem?_eq_getElem h4, Option.getD_some]
        exact this
      generalize l.getD i 0 = x at *
      generalize l.getD (i - 1) 0 = y at *
      obtain ⟨j, hj⟩ : ∃ j, i - 1 = j := ⟨_, rfl⟩
      rw [hj] at k2
      have hw1 : IntKind.i64.wrap ((i : Int) - 1) = (j : Int) := by rw [IntWalk.i64_in _ (by omega)]; omega
      have hji : (j : Int) < (n : Int) := by omega
      have hxy : decide ((x : Int) ≤ (y : Int)) = false := decide_eq_false (by omega)
      have hxy2 : decide (x ≤ y) = false := decide_eq_false (by omega)
      have RE := Lib.hid (Below.drew hE.out)
      clear hc hj hgt
      go_upto_region 4 with fail
      refine wp_region_still_lit (by kernel_rfl) (by kernel_rfl) ?_
      repeat still_step
      refine wpStill_nil ?_
      go_wp2
      go_roundw
      case rel => exact ⟨i + 1, by omega, Or.inl (by omega), by go_num, by first | exact RE | exact hE⟩
      case measure => simp [intOf] <;> omega
    · have hnn : ¬ (i : Int) < (n : Int) := by omega
      go_wp2
      go_ret
      exact ⟨rfl, hE.out⟩
end Go.Proofs.Ytapcecjbmcoliaa
