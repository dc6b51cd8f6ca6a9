/- How a list of floats that comes in reads. -/
import Derived.Test.YtilmighjcjgccaaGreatDoorGx
import Derived.Test.YtilmighjcjgccaaGreatDoorHh
namespace Go.Proofs.YtilmighjcjgccaaGreatDoor
open Go.ChangeShapes Go.WideShapes Go.ChangeAt Go.RowKit Go.Joins Go.Deep

theorem Tryz.cellsFloat1 : Tryz.prog.cellsOf 45 = 1 := by kernel_rfl
theorem Tryz.readFloats : Tryz.prog.readableRec 55 = true := by kernel_rfl
theorem Tryz.sizeFloats : 55 < Tryz.prog.types.size := of_decide_eq_true (by kernel_rfl)

set_option maxRecDepth 100000 in
/-- a list of floats that came in -/
theorem raw_floats {H : Type} {enc : TypeId × Value → H} {W : World} {base : Nat} {v : Value} {d : DataW H} {p : List MemPlace} (hv : Value.okWide Tryz.prog W .any base 55 v)
    (h : DataW.Trod enc Tryz.prog W 0 (fun _ => true) true 55 v d p) : ∃ ao n ca, v = .slice ao n ca ∧ (n ≤ 1000000 → ∃ l, Fs W ao n ca l) := by
  obtain ⟨a0, len0, cap0, rfl⟩ := okWide_slice Tryz.underlying55 hv
  refine ⟨a0, len0, cap0, rfl, fun _ => ?_⟩
  obtain ⟨fuel, hf⟩ := h
  rcases open_ints Tryz.underlying55 Tryz.underlying45 Tryz.cellsFloat1 hf with ⟨e1, _⟩ | ⟨a, len, cap, zs, e1, _, hl, _, hz, _, hcell, hwz⟩
  · simp [Value.cells] at e1
    obtain ⟨rfl, rfl, rfl⟩ := e1
    exact ⟨[], Fs.nil W none 0⟩
  · simp [Value.cells] at e1
    obtain ⟨rfl, rfl, rfl⟩ := e1
    simp only [if_true] at hz
    have hb : ∀ z ∈ zs, 0 ≤ z ∧ z < 18446744073709551616 := fun z hz => by have := bounds_u64 (hwz z hz); omega
    refine ⟨(zs.take len0).map Int.toNat, by rw [List.length_map, List.length_take]; omega, hl, ?_, fun h0 => ?_⟩
    · intro x hx
      obtain ⟨z, hz1, rfl⟩ := List.mem_map.1 hx
      have := hb z (List.mem_of_mem_take hz1)
      omega
    · obtain ⟨b, off, rfl, hc⟩ := ints_at hcell (by omega)
      refine ⟨b, off, rfl, fun j hj => ?_⟩
      have e : (((zs.take len0).map Int.toNat).getD j 0 : Int) = zs.getD j 0 := by
        have hj2 : j < zs.length := by omega
        have := hb zs[j] (List.getElem_mem hj2)
        simp [List.getD, hj, hj2]
        omega
      rw [e]
      exact hc j (by omega)
end Go.Proofs.YtilmighjcjgccaaGreatDoor
