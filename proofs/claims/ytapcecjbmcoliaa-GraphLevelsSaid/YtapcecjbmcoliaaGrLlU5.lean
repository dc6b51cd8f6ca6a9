import Derived.Test.YtapcecjbmcoliaaGrLlU4
import Derived.Shelf.Small.Bits
import Derived.Test.YtapcecjbmcoliaaProg
import Derived.Test.YtapcecjbmcoliaaGrLlU3
import Derived.Test.YtapcecjbmcoliaaRows
import Derived.Test.YtapcecjbmcoliaaGrLlU1
import Derived.WalkKit
import Derived.WalkSpells
import Derived.WalkLawsBesides
import Derived.Laws.Bits64
import Derived.Laws.Bits64b
import Derived.Deep.QuietTactic
import Derived.BigQuiet
import Derived.OwnWalk
import Derived.Laws.ShiftsVar
import Derived.Laws.ShiftsVarLaws
import Derived.BigRegion
import Derived.RegionTactic
import Derived.ChangeAlike
import Derived.Shelf.Spec.TrailingZeros
import Derived.Laws.AppendOwn
import Derived.Deep.RegionHeld3
import Derived.Test.YtapcecjbmcoliaaGrLlU0
import Derived.WalkSmall
import Derived.Lib.Hide
import Derived.Deep.RegionLaw
import Derived.Deep.Onto
namespace Go.Proofs.Ytapcecjbmcoliaa
open Go Go.RowKit

theorem Try.infoInt : (Try.prog.info? 3).map (fun i => (i.zero, i.size, i.bytes)) = some (some (.int .i64 0), 1, 8) := by kernel_rfl

/-- the slice reads as these ints -/
structure Ns (w : World) (ao : Option Addr) (n cap : Nat) (l : List Int) : Prop where
  len : l.length = n
  cap : n ≤ cap
  cells : 0 < n → ∃ b off, ao = some ⟨b, off, none⟩ ∧ ∀ j, j < n → w.cell? ⟨b, off + j, none⟩ = some (.int .i64 (l.getD j 0))
theorem Ns.below {w w' : World} {ao : Option Addr} {n cap : Nat} {l : List Int} (h : Ns w ao n cap l) (hb : Ext w w') : Ns w' ao n cap l :=
  ⟨h.len, h.cap, fun h0 => by
    obtain ⟨b, off, e, hc⟩ := h.cells h0
    refine ⟨b, off, e, fun j hj => ?_⟩
    have := hc j hj
    rw [hb.cell (p := ⟨b, off + j, none⟩) (lt_of_cell this)]
    exact this⟩

/-- the call owns the slice v with these indices -/
def OI (w : World) (B : Nat) (v : Value) (L : List Nat) : Prop := w.ownsRow B 3 1 v L.length (L.map fun (f : Nat) => Value.int .i64 (f : Int))
theorem OI.nil (w : World) (B : Nat) : OI w B (.slice none 0 0) [] := World.ownsRow_nil w B _ _
theorem OI.below {w w' : World} {B : Nat} {v : Value} {L : List Nat} (h : OI w B v L) (hb : Ext w w') : OI w' B v L := by
  obtain ⟨h1, h2⟩ := h
  refine ⟨h1, ?_⟩
  rcases h2 with h2 | ⟨g, cap, cur, hv, hbb, hg, r⟩
  · exact .inl h2
  · exact .inr ⟨g, cap, cur, hv, hbb, by rw [hb.block g (Array.getElem?_eq_some_iff.1 hg).1]; exact hg, r⟩
theorem OI.kept {w w' : World} {B C : Nat} {v : Value} {L : List Nat} (h : OI w B v L) (hb : Below C w w') (hlt : ∀ k, v.ownBlock = some k → k < C) : OI w' B v L := by
  obtain ⟨h1, h2⟩ := h
  refine ⟨h1, ?_⟩
  rcases h2 with h2 | ⟨g, cap, cur, hv, hbb, hg, r⟩
  · exact .inl h2
  · exact .inr ⟨g, cap, cur, hv, hbb, by rw [hb.block g (hlt g (by rw [hv]; rfl))]; exact hg, r⟩
theorem OI.only {w w' : World} {B g' : Nat} {v : Value} {L : List Nat} (h : OI w B v L) (ho : w.grownBy w' (some g')) (hne : v.ownBlock ≠ some g') : OI w' B v L := World.ownsRow.kept h ho (.inr hne)
/-- written out -/
theorem OI.form {w : World} {B : Nat} {v : Value} {L : List Nat} (h : OI w B v L) (h0 : L ≠ []) : ∃ g cap, v = .slice (some ⟨g, 0, none⟩) L.length cap ∧ B ≤ g ∧ g < w.heap.size ∧ L.length ≤ cap ∧ (∀ j, j < L.length → w.cell? ⟨g, j, none⟩ = some (.int .i64 ((L.getD j 0 : Nat) : Int))) := by
  obtain ⟨h1, h2⟩ := h
  rcases h2 with ⟨rfl, hl⟩ | ⟨g, cap, cur, rfl, hb, hg, hn, hm, hs, ht⟩
  · exact absurd (List.eq_nil_of_length_eq_zero hl) h0
  · refine ⟨g, cap, rfl, hb, (Array.getElem?_eq_some_iff.1 hg).1, hn, fun j hj => ?_⟩
    rw [cell_of_row w g j _ _ _ hg]
    have : (cur.toList.take (L.length * 1))[j]? = (L.map fun (f : Nat) => Value.int .i64 (f : Int))[j]? := by rw [ht]
    rw [List.getElem?_take, if_pos (by omega)] at this
    simp only [Array.getElem?_toList] at this
    rw [this]
    simp [List.getD, hj]

end Go.Proofs.Ytapcecjbmcoliaa
