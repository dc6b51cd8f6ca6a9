import Derived.Test.YtapcecjbmcoliaaGrPlU8
import Derived.Test.YtapcecjbmcoliaaGrPlU4
namespace Go.Proofs.Ytapcecjbmcoliaa
open Go Go.RowKit

/-- the slice reads as this matrix -/
structure Nss (w : World) (ao : Option Addr) (n cap : Nat) (M : List (List Int)) : Prop where
  len : M.length = n
  cap : n ≤ cap
  rows : 0 < n → ∃ b off, ao = some ⟨b, off, none⟩ ∧ ∀ i, i < n → ∃ ri ci, w.cell? ⟨b, off + i, none⟩ = some (.slice ri (M.getD i []).length ci) ∧ Ns w ri (M.getD i []).length ci (M.getD i [])
theorem Nss.below {w w' : World} {ao : Option Addr} {n cap : Nat} {M : List (List Int)} (h : Nss w ao n cap M) (hb : Ext w w') : Nss w' ao n cap M :=
  ⟨h.len, h.cap, fun h0 => by
    obtain ⟨b, off, e, hc⟩ := h.rows h0
    refine ⟨b, off, e, fun i hi => ?_⟩
    obtain ⟨ri, ci, h1, h2⟩ := hc i hi
    exact ⟨ri, ci, (hb.cell (lt_of_cell h1)).trans h1, h2.below hb⟩⟩
theorem Try.infoRowI : (Try.prog.info? 22).map (fun i => (i.zero, i.size, i.bytes)) = some (some (.slice none 0 0), 1, 24) := by kernel_rfl
end Go.Proofs.Ytapcecjbmcoliaa
