/- What sparsekit.Limbs does: it compares two lists of limbs. -/
import Derived.Test.YtkifefinbgceeaaDoorClone
import Derived.Deep.QuietTactic
import Derived.BigQuiet
namespace Go.Proofs.YtkifefinbgceeaaDoor
open Go.RowKit

set_option maxRecDepth 100000 in
set_option maxHeartbeats 400000 in
theorem limbs_same (ao bo : Option Addr) (n cap cbp : Nat) (zs : List Int) (w : World) (ha : Sl w ao n cap zs) (hb : Sl w bo n cbp zs) :
    Calls Tryd.prog 49 #[.slice ao n cap, .slice bo n cbp] w fun e w' => e = .returned (.bool true) ∧ ∃ q, w' = w.drewN q := by
  have hn := ha.big
  have h0 : ((n : Int) != n) = false := by simp
  go_enter Tryd.func49, Tryd.ntmps49
  go_wp2
  go_loopw [5] (fun i wr => ∃ k q : Nat, k ≤ n ∧ i = .int .i64 k ∧ wr = w.drewN q) (fun i _ => n - (intOf i).toNat)
  case atStart => exact ⟨0, 0, Nat.zero_le _, rfl, rfl⟩
  case round =>
    obtain ⟨k, q, hk, rfl, hw⟩ := hrel
    by_cases hlt : k < n
    · obtain ⟨b, off, rfl, hc⟩ := ha.cells (by rw [ha.len]; omega)
      obtain ⟨b', off', rfl, hc'⟩ := hb.cells (by rw [hb.len]; omega)
      subst hw
      have c1 := hc k (by rw [ha.len]; omega)
      have c2 := hc' k (by rw [hb.len]; omega)
      clear hc hc'
      obtain ⟨x, hx⟩ : ∃ x, zs.getD k 0 = x := ⟨_, rfl⟩
      rw [hx] at c1 c2
      clear hx
      have hxx : (x != x) = false := by simp
      go_wp2
      go_quiet (fail)
      go_wp2
      go_roundw
      case rel => exact ⟨k + 1, q + nq, by omega, by go_num, by simp [World.drewN]⟩
      case measure => simp [intOf]; omega
    · clear ha hb
      go_wp2
      go_ret
      exact ⟨rfl, q, rfl⟩
end Go.Proofs.YtkifefinbgceeaaDoor
