import Derived.Test.YtapcecjbmcoliaaGrLlU17
import Derived.Test.YtapcecjbmcoliaaGrLlU19
namespace Go.Proofs.Ytapcecjbmcoliaa
open Go Go.RowKit

theorem OZ.nsE {w : World} {B k : Nat} {qo : Option Addr} {qc : Nat} {L : List Int} (h : OZ w B (.slice qo k qc) L) : k = L.length ∧ Ns w qo k qc L := by
  by_cases h0 : L = []
  · subst h0
    obtain ⟨ao, cap, e⟩ := h.slE
    cases e
    obtain ⟨h1, h2⟩ := h
    rcases h2 with ⟨e, _⟩ | ⟨g, cap', cur, e, hb, hg, hn, _⟩
    · cases e
      exact ⟨rfl, rfl, Nat.le_refl _, fun h => absurd h (by simp)⟩
    · cases e
      exact ⟨rfl, rfl, hn, fun h => absurd h (by simp)⟩
  · obtain ⟨ao, cap, e, hns⟩ := h.ns h0
    cases e
    exact ⟨rfl, hns⟩

end Go.Proofs.Ytapcecjbmcoliaa
