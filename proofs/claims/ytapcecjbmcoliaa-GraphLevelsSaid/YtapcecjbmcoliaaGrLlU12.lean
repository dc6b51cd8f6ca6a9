import Derived.Test.YtapcecjbmcoliaaGrLlU9
import Derived.BigRegion
import Derived.Deep.QuietTactic
import Derived.Test.YtapcecjbmcoliaaGrLlU4
import Derived.Test.YtapcecjbmcoliaaGrLlU2
import Derived.Deep.RegionHeld3
import Derived.Test.YtapcecjbmcoliaaRows
import Derived.Test.YtapcecjbmcoliaaGrLlU1
import Derived.WalkKit
import Derived.WalkSpells
import Derived.WalkLawsBesides
import Derived.OwnWalk
import Derived.Laws.AppendOwn
import Derived.Deep.RegionLaw
import Derived.Deep.CutRange
namespace Go.Proofs.Ytapcecjbmcoliaa
open Go Go.RowKit

theorem set_at {α : Type} {l : List α} {i : Nat} {d a : α} (h : i < l.length) : (l.set i a).getD i d = a := by simp [List.getD, h]
theorem set_off {α : Type} {l : List α} {i j : Nat} {d a : α} (h : ¬ i = j) : (l.set i a).getD j d = l.getD j d := by simp [List.getD, h]
theorem elim_len (p : Int) (col : Nat) (piv row : List Int) : (elimRow p col piv row).length = row.length := by unfold elimRow; split <;> simp
theorem clear_len (p : Int) (top col : Nat) (M : List (List Int)) : (clearM p top col M).length = M.length := by simp [clearM]
end Go.Proofs.Ytapcecjbmcoliaa

namespace Go.Proofs.Ytapcecjbmcoliaa
open Go.RowKit

/-- a raw integer at hand: its value, its sign, its limbs -/
structure REnt where
  v : Value
  nb : Bool
  zs : List Int
def REnt.Ok (w : World) (p : REnt) : Prop := ∃ ao n ca, p.v = .agg #[.bool p.nb, .slice ao n ca] ∧ Sl w ao n ca p.zs
theorem REnt.Ok.ext {w w' : World} {p : REnt} (h : p.Ok w) (he : Ext w w') : p.Ok w' := by
  obtain ⟨ao, n, ca, h1, h2⟩ := h
  exact ⟨ao, n, ca, h1, h2.below he⟩
structure RSt (W w : World) (L : List REnt) : Prop where
  ext : Ext W w
  bag : ∀ p ∈ L, p.Ok w
theorem RSt.step {W w w' : World} {L : List REnt} (h : RSt W w L) (he : Ext w w') : RSt W w' L := ⟨h.ext.trans he, fun p hp => (h.bag p hp).ext he⟩
theorem RSt.drew {W w : World} {L : List REnt} (h : RSt W w L) : RSt W w.drew L := h.step (Below.refl _ _).drew
theorem RSt.alloc {W w : World} {L : List REnt} (h : RSt W w L) (o : Obj) : RSt W (w.alloc o) L := h.step ((Below.refl _ w).alloc (Nat.le_refl _) o)
end Go.Proofs.Ytapcecjbmcoliaa
