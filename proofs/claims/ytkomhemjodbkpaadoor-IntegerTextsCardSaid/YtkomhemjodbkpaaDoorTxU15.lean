import Derived.Test.YtkomhemjodbkpaaDoorTxU4
import Derived.Deep.QuietTactic
import Derived.BigQuiet
import Derived.Test.YtkomhemjodbkpaaDoorTxU9
import Derived.Test.YtkomhemjodbkpaaDoorTxU12
import Derived.Deep.RegionHeld3
import Derived.Test.YtkomhemjodbkpaaDoorTxU13
import Derived.Test.YtkomhemjodbkpaaDoorTxU14
namespace Go.Proofs.YtkomhemjodbkpaaDoor
open Go.RowKit

set_option maxRecDepth 100000 in
set_option maxHeartbeats 400000 in
theorem limbs_same (ao bo : Option Addr) (n cap cbp : Nat) (zs : List Int) (w : World) (ha : Sl w ao n cap zs) (hb : Sl w bo n cbp zs) :
    Calls Tryd.prog 25 #[.slice ao n cap, .slice bo n cbp] w fun e w' => e = .returned (.bool true) ∧ ∃ q, w' = w.drewN q := by
  have hn := ha.big
  have h0 : ((n : Int) != n) = false := by simp
  go_enter Tryd.func25, Tryd.ntmps25
  go_wp2
  go_loopw [5] (fun i wr => ∃ k q : Nat, k ≤ n ∧ i = .int .i64 k ∧ wr = w.drewN q) (fun i _ => n - (intOf i).toNat)
  case atStart => exact ⟨0, 0, Nat.zero_le _, rfl, rfl⟩
  case round =>
    obtain ⟨k, q, hk, rfl, hw⟩ := hrel
    by_cases hlt : k < n
    · obtain ⟨b, off, rfl, hc⟩ := ha.cells (by rw [ha.len]; omega)
      obtain ⟨b', off', rfl, hc'⟩ := hb.cells (by rw [hb.len]; omega)
      subst hw
      have c1 := hc k (by rw [ha.len]; omega)
      have c2 := hc' k (by rw [hb.len]; omega)
      clear hc hc'
      obtain ⟨x, hx⟩ : ∃ x, zs.getD k 0 = x := ⟨_, rfl⟩
      rw [hx] at c1 c2
      clear hx
      have hxx : (x != x) = false := by simp
      go_wp2
      go_quiet (fail)
      go_wp2
      go_roundw
      case rel => exact ⟨k + 1, q + nq, by omega, by go_num, by simp [World.drewN]⟩
      case measure => simp [intOf]; omega
    · clear ha hb
      go_wp2
      go_ret
      exact ⟨rfl, q, rfl⟩
end Go.Proofs.YtkomhemjodbkpaaDoor

namespace Go.Proofs.YtkomhemjodbkpaaDoor
open Go.RowKit

set_option maxRecDepth 100000 in
set_option maxHeartbeats 1000000 in
theorem big_same (nb mb : Bool) (ao : Option Addr) (n ca : Nat) (bo : Option Addr) (m cb : Nat) (zs : List Int) (w : World) (hm : nb = mb) (ha : Sl w ao n ca zs) (hb : Sl w bo m cb zs) :
    Calls Tryd.prog 9 #[.agg #[.bool nb, .slice ao n ca], .agg #[.bool mb, .slice bo m cb]] w fun e w' => e = .returned (.bool true) ∧ Below w.heap.size w w' := by
  subst hm
  obtain rfl : n = m := by rw [← ha.len, hb.len]
  go_enter Tryd.func9, Tryd.ntmps9
  go_wp2_with fail
  obtain ⟨W, hW, hB⟩ : ∃ W, W = (w.alloc (.cells #[.bool nb, .slice ao n ca] 24)).alloc (.cells #[.bool nb, .slice bo n cb] 24) ∧ Below w.heap.size w W :=
    ⟨_, rfl, ((Below.refl _ w).alloc (Nat.le_refl _) _).alloc (by simp) _⟩
  rw [← hW]
  clear hW
  refine (limbs_same _ _ _ _ _ zs W (ha.below hB) (hb.below hB)).mono ?_
  rintro e w1 ⟨rfl, q, rfl⟩
  have hB' := Lib.hid hB; clear hB
  go_wp2
  go_ret
  exact ⟨rfl, below_drewN hB'.out q⟩

theorem big_eq (nb mb : Bool) (ao : Option Addr) (n ca : Nat) (bo : Option Addr) (m cb : Nat) (x y : Int) (w : World) (ha : Bn w nb ao n ca x) (hb : Bn w mb bo m cb y) (hxy : x = y) :
    Calls Tryd.prog 9 #[.agg #[.bool nb, .slice ao n ca], .agg #[.bool mb, .slice bo m cb]] w fun e w' => e = .returned (.bool true) ∧ Below w.heap.size w w' := by
  subst hxy
  exact big_same nb mb ao n ca bo m cb _ w (by rw [ha.neg, hb.neg]) ha.sl hb.sl

set_option maxRecDepth 100000 in
set_option maxHeartbeats 1000000 in
theorem slim_any (nb : Bool) (ao : Option Addr) (n ca k : Nat) (w : World) :
    Calls Tryd.prog 5 #[.agg #[.bool nb, .slice ao n ca], .int .i64 k] w fun e w' => e = .returned (.bool (decide (n ≤ k))) ∧ Below w.heap.size w w' := by
  go_enter Tryd.func5, Tryd.ntmps5
  go_wp2
  go_ret
  exact ⟨by first | rfl | simp, (Below.refl _ w).alloc (Nat.le_refl _) _⟩
end Go.Proofs.YtkomhemjodbkpaaDoor

namespace Go.Proofs.YtkomhemjodbkpaaDoor
open Go.RowKit

/-- later, with all that was there as it was -/
def Ext (w w' : World) : Prop := Below w.heap.size w w'
theorem Ext.refl (w : World) : Ext w w := Below.refl _ _
theorem Ext.trans {a b c : World} (h : Ext a b) (k : Ext b c) : Ext a c := Below.trans h (Below.mono k h.size)

/-- a value, the number that it stands for, how many limbs it has at most, is it normalized -/
structure Ent where
  v : Value
  x : Int
  N : Nat
  c : Bool

section
variable {W w : World} {L : List Ent} {u v : Value} {x y : Int} {N M : Nat} {c d : Bool}

end

theorem slim_yes (nb : Bool) (ao : Option Addr) (n ca k : Nat) (w : World) (h : n ≤ k) :
    Calls Tryd.prog 5 #[.agg #[.bool nb, .slice ao n ca], .int .i64 k] w fun e w' => e = .returned (.bool true) ∧ Ext w w' :=
  (slim_any nb ao n ca k w).mono fun _ _ ⟨he, hw⟩ => ⟨by rw [he]; simp [h], hw⟩
theorem slim_no (nb : Bool) (ao : Option Addr) (n ca k : Nat) (w : World) (h : ¬ n ≤ k) :
    Calls Tryd.prog 5 #[.agg #[.bool nb, .slice ao n ca], .int .i64 k] w fun e w' => e = .returned (.bool false) ∧ Ext w w' :=
  (slim_any nb ao n ca k w).mono fun _ _ ⟨he, hw⟩ => ⟨by rw [he]; simp [h], hw⟩
end Go.Proofs.YtkomhemjodbkpaaDoor
