import Derived.Test.YtkomhemjodbkpaaDoorCards
import Derived.Test.YtkomhemjodbkpaaDoorTie
import Derived.Test.YtkomhemjodbkpaaDoorTxOrdU1
import Derived.WalkKit
import Derived.ProofKit
import Derived.OpenShut
import Derived.Deep.DeepHandedRow
import Derived.Lib.LaidTab
import Derived.Lib.SmallJoins
import Derived.LaidMore
namespace Go.Proofs.YtkomhemjodbkpaaDoor
open Go.ChangeShapes Go.WideShapes Go.ChangeAt Go.RowKit Go.Joins

theorem Tryd.own : ownKnob Tryd.prog.godebug = none := by kernel_rfl
theorem Tryd.laidOut : laidOutB Tryd.prog = true := by kernel_rfl
theorem Tryd.cellsBig : Tryd.prog.cellsOf 24 = 2 := by kernel_rfl
theorem Tryd.cellsU32 : Tryd.prog.cellsOf 47 = 1 := by kernel_rfl
theorem Tryd.readBig : Tryd.prog.readableRec 24 = true := by kernel_rfl
theorem Tryd.sizeBig : 24 < Tryd.prog.types.size := of_decide_eq_true (by kernel_rfl)

theorem wf_u32 {z : Int} (h : (Lit.int .u32 z).wf = true) : 0 ≤ z ∧ z < 4294967296 := by
  have := bounds_u32 h
  omega

set_option maxRecDepth 100000 in
/-- an integer that came in -/
theorem raw_big {H : Type} {enc : TypeId × Value → H} {W : World} {base : Nat} {v : Value} {d : DataW H} {p : List MemPlace} (hv : Value.okWide Tryd.prog W .any base 24 v)
    (h : DataW.Trod enc Tryd.prog W 0 (fun _ => true) true 24 v d p) : ∃ nb ao n ca, v = .agg #[.bool nb, .slice ao n ca] ∧ (n ≤ 1099511627776 → ∃ zs, Sl W ao n ca zs) := by
  obtain ⟨c0, c1, y0, y1, m, rfl, _, _, hy0, hy1⟩ := open_agg2 Tryd.underlying24 (by kernel_rfl) Tryd.cellsBig hv h
  obtain ⟨nb, e0, _⟩ := DataW.trod_bool Tryd.underlying4 hy0
  simp at e0
  subst e0
  rcases open_ints Tryd.underlying22 Tryd.underlying47 Tryd.cellsU32 hy1 with ⟨e1, _⟩ | ⟨a, len, cap, zs, e1, _, hl, _, hz, _, hcell, hwz⟩
  · simp at e1
    subst e1
    exact ⟨nb, none, 0, 0, rfl, fun _ => ⟨[], Sl.nil W⟩⟩
  · simp at e1
    subst e1
    simp only [if_true] at hz
    refine ⟨nb, some a, len, cap, rfl, fun hb => ⟨zs.take len, by rw [List.length_take, Nat.min_eq_left]; omega, hl, hb, fun z hz => wf_u32 (hwz z (List.mem_of_mem_take hz)), ?_⟩⟩
    intro h0
    rw [List.length_take] at h0
    obtain ⟨b, off, rfl, hc⟩ := ints_at hcell (by omega)
    refine ⟨b, off, rfl, fun j hj => ?_⟩
    rw [List.length_take] at hj
    rw [take_getD zs len j (by omega)]
    exact hc j (by omega)

theorem Tryd.readInt : Tryd.prog.readableRec 3 = true := by kernel_rfl
theorem Tryd.sizeInt : 3 < Tryd.prog.types.size := of_decide_eq_true (by kernel_rfl)
end Go.Proofs.YtkomhemjodbkpaaDoor
