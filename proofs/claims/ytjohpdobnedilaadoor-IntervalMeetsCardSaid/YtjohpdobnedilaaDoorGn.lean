/- What sparsekit.Dyad, SlimDyad and the law's same do. -/
import Derived.Test.YtjohpdobnedilaaDoorGk
import Derived.Test.YtjohpdobnedilaaDoorGm
import Derived.Test.YtjohpdobnedilaaDoorGl
namespace Go.Proofs.YtjohpdobnedilaaDoor
open Go.RowKit

theorem Dn.num {w : World} {bb nb : Bool} {ao : Option Addr} {n ca : Nat} {f : Int} {d : Dy} (h : Dn w (.agg #[.bool bb, .bool nb, .slice ao n ca, .int .i64 f]) d) : bb = d.isNone ∧ f = dx d ∧ Bn w nb ao n ca (dm d) := h.get

end Go.Proofs.YtjohpdobnedilaaDoor

/- The check of fixed numbers of the laws of dyads returns true. -/
namespace Go.Proofs.YtjohpdobnedilaaDoor
open Go.RowKit

theorem limb_one (k : Nat) (h : k < 4294967296) (h0 : k ≠ 0) : limbs k = [(k : Int)] := by
  rw [limbs_pos h0, show k / 4294967296 = 0 by omega, limbs_zero, Nat.mod_eq_of_lt h]

/-- a limb in a new block -/
theorem limb_made (w : World) (k : Nat) (h : k < 4294967296) (h0 : k ≠ 0) :
    ∃ W, W = w.alloc (.cells #[.int .u32 (k : Int)] 64) ∧ Ext w W ∧ Bn W false (some ⟨w.heap.size, 0, none⟩) 1 1 (k : Int) := by
  refine ⟨_, rfl, (Below.refl _ w).alloc (Nat.le_refl _) _, by simp, ?_⟩
  have hb : Blk (w.alloc (.cells #[.int .u32 (k : Int)] 64)) w.heap.size [(k : Int)] := heap_alloc_new w _
  rw [Int.natAbs_natCast, limb_one k h h0]
  exact hb.sl (Wf.cons ⟨by omega, by omega⟩ Wf.nil) rfl (by omega) (Nat.le_refl _)

theorem dn_lit {w : World} {nb : Bool} {ao : Option Addr} {n ca : Nat} {m f : Int} (h : Bn w nb ao n ca m) (h0 : Nd (some (m, f))) : Dn w (.agg #[.bool false, .bool nb, .slice ao n ca, .int .i64 f]) (some (m, f)) := ⟨h0, nb, ao, n, ca, rfl, h⟩

theorem dmk_12 : dmk 12 3 = some (3, 5) := by
  have := dmk_shift 3 3 2
  rw [show (3 : Int) * 2 ^ 2 = 12 by decide] at this
  rw [this]
  exact dmk_norm (Or.inr ⟨by decide, by decide, by decide⟩)
theorem dmk_1 : dmk 1 0 = some (1, 0) := dmk_norm (Or.inr ⟨by decide, by decide, by decide⟩)
theorem dmk_3 : dmk 3 0 = some (3, 0) := dmk_norm (Or.inr ⟨by decide, by decide, by decide⟩)
theorem quo_13 : dquo (dmk 1 0) (dmk 3 0) 2 0 = some (3, -3) := by
  rw [dmk_1, dmk_3]
  have h1 : qsh 1 3 2 = 4 := by decide
  have h2 : qtail 1 3 2 = 11 := by
    unfold qtail
    rw [h1]
    decide
  have h3 : dquo (some (1, 0)) (some (3, 0)) 2 0 = drd (qsgn 1 3 (qtail 1 3 2)) (0 - 0 - qsh 1 3 2 - 1) 2 0 := rfl
  rw [h3, h1, h2, show qsgn 1 3 11 = 11 by decide]
  have h4 : tzf 11 = 0 := tzf_odd (by decide)
  have h5 : drd 11 (0 - 0 - 4 - 1) 2 0 = dmk 3 (-3) := by
    unfold drd rup
    rw [show (11 : Int).natAbs = 11 from rfl, h4, show blen 11 = 4 by decide]
    rfl
  rw [h5]
  exact dmk_norm (Or.inr ⟨by decide, by decide, by decide⟩)
theorem cmp_31 : sgn3 (sc (some (3, -3))) (sc (some (1, 0))) = -1 := by
  rw [sc_shift (m := 1) (e := 0) (f := -3) (by decide) (by decide), sc_some, sgn3_common]
  decide

theorem cmpOut_31 {e : Ending} (h : CmpOut (some (3, -3)) (dmk 1 0) e) : e = .returned (.tuple #[.int .i64 (-1), .bool true]) := by
  rw [dmk_1] at h
  rcases h with ⟨h1, _⟩ | ⟨_, _, h1⟩
  · rcases h1 with h1 | h1 <;> cases h1
  · rw [cmp_31] at h1; exact h1

end Go.Proofs.YtjohpdobnedilaaDoor
