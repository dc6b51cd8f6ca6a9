/- How an integer that comes in reads, and that it reads so behind the call. -/
import Derived.Test.YtjohpdobnedilaaGreatDoorCards
import Derived.Test.YtjohpdobnedilaaGreatDoorTie
import Derived.Test.YtjohpdobnedilaaGreatDoorGa
import Derived.WalkKit
import Derived.ProofKit
import Derived.OpenShut
import Derived.Deep.DeepHandedRow
import Derived.Lib.LaidTab
import Derived.Lib.SmallJoins
import Derived.LaidMore
namespace Go.Proofs.YtjohpdobnedilaaGreatDoor
open Go.ChangeShapes Go.WideShapes Go.ChangeAt Go.RowKit Go.Joins

theorem Tryz.own : ownKnob Tryz.prog.godebug = none := by kernel_rfl
theorem Tryz.laidOut : laidOutB Tryz.prog = true := by kernel_rfl
theorem Tryz.cellsBig : Tryz.prog.cellsOf 37 = 2 := by kernel_rfl
theorem Tryz.cellsU32 : Tryz.prog.cellsOf 64 = 1 := by kernel_rfl
theorem Tryz.readBig : Tryz.prog.readableRec 37 = true := by kernel_rfl
theorem Tryz.sizeBig : 37 < Tryz.prog.types.size := of_decide_eq_true (by kernel_rfl)

theorem wf_u32 {z : Int} (h : (Lit.int .u32 z).wf = true) : 0 ≤ z ∧ z < 4294967296 := by
  have := bounds_u32 h
  omega

set_option maxRecDepth 100000 in
/-- an integer that came in -/
theorem raw_big {H : Type} {enc : TypeId × Value → H} {W : World} {base : Nat} {v : Value} {d : DataW H} {p : List MemPlace} (hv : Value.okWide Tryz.prog W .any base 37 v)
    (h : DataW.Trod enc Tryz.prog W 0 (fun _ => true) true 37 v d p) : ∃ nb ao n ca, v = .agg #[.bool nb, .slice ao n ca] ∧ (n ≤ 1099511627776 → ∃ zs, Sl W ao n ca zs) := by
  obtain ⟨c0, c1, y0, y1, m, rfl, _, _, hy0, hy1⟩ := open_agg2 Tryz.underlying37 (by kernel_rfl) Tryz.cellsBig hv h
  obtain ⟨nb, e0, _⟩ := DataW.trod_bool Tryz.underlying4 hy0
  simp at e0
  subst e0
  rcases open_ints Tryz.underlying35 Tryz.underlying64 Tryz.cellsU32 hy1 with ⟨e1, _⟩ | ⟨a, len, cap, zs, e1, _, hl, _, hz, _, hcell, hwz⟩
  · simp at e1
    subst e1
    exact ⟨nb, none, 0, 0, rfl, fun _ => ⟨[], Sl.nil W⟩⟩
  · simp at e1
    subst e1
    simp only [if_true] at hz
    refine ⟨nb, some a, len, cap, rfl, fun hb => ⟨zs.take len, by rw [List.length_take, Nat.min_eq_left]; omega, hl, hb, fun z hz => wf_u32 (hwz z (List.mem_of_mem_take hz)), ?_⟩⟩
    intro h0
    rw [List.length_take] at h0
    obtain ⟨b, off, rfl, hc⟩ := ints_at hcell (by omega)
    refine ⟨b, off, rfl, fun j hj => ?_⟩
    rw [List.length_take] at hj
    rw [take_getD zs len j (by omega)]
    exact hc j (by omega)

theorem Tryz.readInt : Tryz.prog.readableRec 3 = true := by kernel_rfl
theorem Tryz.sizeInt : 3 < Tryz.prog.types.size := of_decide_eq_true (by kernel_rfl)
end Go.Proofs.YtjohpdobnedilaaGreatDoor
