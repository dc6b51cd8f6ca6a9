/- How a float that comes in reads. -/
import Derived.Test.YtjohpdobnedilaaDoorCRawD
namespace Go.Proofs.YtjohpdobnedilaaDoor
theorem Tryd.readFloat : Tryd.prog.readableRec 23 = true := by kernel_rfl
theorem Tryd.sizeFloat : 23 < Tryd.prog.types.size := of_decide_eq_true (by kernel_rfl)
theorem Tryd.readInt' : Tryd.prog.readableRec 3 = true := by kernel_rfl
end Go.Proofs.YtjohpdobnedilaaDoor

/- How an interval that comes in reads. -/
namespace Go.Proofs.YtjohpdobnedilaaDoor
open Go.ChangeShapes Go.WideShapes Go.ChangeAt Go.RowKit Go.Joins Go.Deep

theorem Tryd.cellsInterval : Tryd.prog.cellsOf 25 = 2 := by kernel_rfl
theorem Tryd.cellsFloat : Tryd.prog.cellsOf 23 = 1 := by kernel_rfl
theorem Tryd.readInterval : Tryd.prog.readableRec 25 = true := by kernel_rfl
theorem Tryd.sizeInterval : 25 < Tryd.prog.types.size := of_decide_eq_true (by kernel_rfl)

set_option maxRecDepth 100000 in
/-- an interval that came in -/
theorem raw_interval {H : Type} {enc : TypeId × Value → H} {W : World} {base : Nat} {v : Value} {d : DataW H} {p : List MemPlace} (hv : Value.okWide Tryd.prog W .any base 25 v)
    (h : DataW.Trod enc Tryd.prog W 0 (fun _ => true) true 25 v d p) : ∃ lo hi : Int, v = .agg #[.int .u64 lo, .int .u64 hi] ∧ (0 ≤ lo ∧ lo < 18446744073709551616) ∧ (0 ≤ hi ∧ hi < 18446744073709551616) := by
  obtain ⟨cs, rfl, hsz⟩ := okWide_struct Tryd.underlying25 hv
  obtain ⟨c0, c1, rfl⟩ := array2 (hsz.trans Tryd.cellsInterval)
  obtain ⟨fuel, hf⟩ := h
  obtain ⟨z0, z1, m', _, _, hz0, hz1⟩ := trod_struct2 Tryd.underlying25 hf
  simp only [Value.cells, Tryd.cellsFloat, List.drop_zero, List.take_succ_cons, List.take_zero, List.drop_succ_cons] at hz0 hz1
  obtain ⟨lo, e0, _, w0⟩ := DataW.trod_int Tryd.underlying23 hz0
  simp at e0
  subst e0
  obtain ⟨hi, e1, _, w1⟩ := DataW.trod_int Tryd.underlying23 hz1
  simp at e1
  subst e1
  have b0 := bounds_u64 w0
  have b1 := bounds_u64 w1
  exact ⟨lo, hi, rfl, by omega, by omega⟩
end Go.Proofs.YtjohpdobnedilaaDoor
