import Derived.Test.YtapcecjbmcoliaaRows
import Derived.Test.YtapcecjbmcoliaaGrLlU5
import Derived.WalkKit
import Derived.ProofKit
import Derived.OpenShut
import Derived.Deep.DeepHandedRow
import Derived.Lib.SmallJoins
import Derived.LaidMore
namespace Go.Proofs.Ytapcecjbmcoliaa
open Go.ChangeShapes Go.WideShapes Go.ChangeAt Go.RowKit Go.Joins Go.Deep
theorem Try.own : ownKnob Try.prog.godebug = none := by kernel_rfl
theorem Try.laidOut : laidOutB Try.prog = true := by kernel_rfl
theorem Try.cellsInt : Try.prog.cellsOf 3 = 1 := by kernel_rfl
theorem Try.readInt : Try.prog.readableRec 3 = true := by kernel_rfl
theorem Try.sizeInt : 3 < Try.prog.types.size := of_decide_eq_true (by kernel_rfl)
theorem Try.readInts : Try.prog.readableRec 22 = true := by kernel_rfl
theorem Try.sizeInts : 22 < Try.prog.types.size := of_decide_eq_true (by kernel_rfl)

set_option maxRecDepth 100000 in
/-- a list of ints that came in -/
theorem raw_ints {H : Type} {enc : TypeId × Value → H} {W : World} {base : Nat} {v : Value} {d : DataW H} {p : List MemPlace} (hv : Value.okWide Try.prog W .any base 22 v)
    (h : DataW.Trod enc Try.prog W 0 (fun _ => true) true 22 v d p) : ∃ ao n ca, v = .slice ao n ca ∧ ∃ l, Ns W ao n ca l := by
  obtain ⟨a0, len0, cap0, rfl⟩ := okWide_slice Try.underlying22 hv
  refine ⟨a0, len0, cap0, rfl, ?_⟩
  obtain ⟨fuel, hf⟩ := h
  rcases open_ints Try.underlying22 Try.underlying3 Try.cellsInt hf with ⟨e1, _⟩ | ⟨a, len, cap, zs, e1, _, hl, _, hz, _, hcell, hwz⟩
  · simp [Value.cells] at e1
    obtain ⟨rfl, rfl, rfl⟩ := e1
    exact ⟨[], rfl, Nat.le_refl _, fun h => absurd h (by simp)⟩
  · simp [Value.cells] at e1
    obtain ⟨rfl, rfl, rfl⟩ := e1
    simp only [if_true] at hz
    refine ⟨zs.take len0, by rw [List.length_take]; omega, hl, fun h0 => ?_⟩
    obtain ⟨b, off, rfl, hc⟩ := ints_at hcell (by omega)
    refine ⟨b, off, rfl, fun j hj => ?_⟩
    have e : (zs.take len0).getD j 0 = zs.getD j 0 := by simp [List.getD, hj]
    rw [e]
    exact hc j (by omega)
end Go.Proofs.Ytapcecjbmcoliaa
