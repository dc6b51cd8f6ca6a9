/- What integer.trim does: it returns the same memory, cut before the leading zeros. -/
import Derived.Test.YtkifefinbgceeaaDoorRows
import Derived.Test.YtkifefinbgceeaaDoorMem
import Derived.WalkKit
import Derived.WalkSpells
import Derived.WalkLawsBesides
namespace Go.Proofs.YtkifefinbgceeaaDoor
open Go.RowKit

set_option maxHeartbeats 400000 in
theorem trim_any (ao : Option Addr) (n cap : Nat) (zs : List Int) (w : World) (hl : zs.length = n) (hn : n ≤ 1099511627776) (hcap : n ≤ cap) (ha : At w ao zs) :
    Calls Tryd.prog 47 #[.slice ao n cap] w fun e w' => e = .returned (.slice ao (tlen zs n) cap) ∧ w = w' := by
  have HL := Lib.hid hl; clear hl
  go_enter Tryd.func47, Tryd.ntmps47
  go_wp2
  go_loop [3] (fun i => ∃ k : Nat, k ≤ n ∧ i = .int .i64 k ∧ tlen zs n = tlen zs k) (fun i => (intOf i).toNat)
  case atStart => exact ⟨n, Nat.le_refl _, rfl, rfl⟩
  case round =>
    obtain ⟨k, hk, rfl, ht⟩ := hrel
    have HT := Lib.hid ht; clear ht
    by_cases h0 : 0 < k
    · obtain ⟨m, rfl⟩ : ∃ m, k = m + 1 := ⟨k - 1, by omega⟩
      obtain ⟨b, off, rfl, hc⟩ := ha (by rw [HL.out]; omega)
      have hcell := hc m (by rw [HL.out]; omega)
      clear hc ha
      go_wp2
      · have h1 : (zs[m]?.getD 0 == 0) = true := by assumption
        go_round
        case rel => exact ⟨m, by omega, by go_num, by rw [HT.out, tlen, if_pos (by simpa [List.getD] using h1)]⟩
        case measure => simp [intOf]
      · have h1 : (zs[m]?.getD 0 == 0) = false := by assumption
        go_ret
        refine ⟨?_, rfl⟩
        rw [HT.out, tlen, if_neg (by simpa [List.getD] using h1)]; rfl
    · obtain rfl : k = 0 := by omega
      clear ha
      go_wp2
      go_ret
      refine ⟨?_, rfl⟩
      rw [HT.out]; rfl

/-- trim gives the limbs of the number, in the same world -/
theorem trim_sl (ao : Option Addr) (n cap : Nat) (zs : List Int) (w : World) (h : Sl w ao n cap zs) :
    Calls Tryd.prog 47 #[.slice ao n cap] w fun e w' => ∃ k, e = .returned (.slice ao k cap) ∧ Sl w ao k cap (limbs (num zs).toNat) ∧ w = w' :=
  (trim_any ao n cap zs w h.len h.big h.cap h.cells).mono fun _ _ ⟨he, hw⟩ => ⟨_, he, h.trim, hw⟩

/-- the same length in every world -/
theorem trim_at (ao : Option Addr) (n cap : Nat) (zs : List Int) (w : World) (h : Sl w ao n cap zs) :
    ∃ k, k ≤ n ∧ Sl w ao k cap (limbs (num zs).toNat) ∧ ∀ W, Sl W ao n cap zs → Calls Tryd.prog 47 #[.slice ao n cap] W fun e w' => e = .returned (.slice ao k cap) ∧ W = w' :=
  ⟨_, tlen_le _ _, h.trim, fun W hW => trim_any ao n cap zs W hW.len hW.big hW.cap hW.cells⟩
end Go.Proofs.YtkifefinbgceeaaDoor
