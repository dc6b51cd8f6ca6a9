import Derived.Test.YtecaaklbhhjcjaaDoorDivisorU14
import Derived.Deep.RegionHeld3
import Derived.Test.YtecaaklbhhjcjaaDoorDivisorU2
import Derived.Laws.Bits64
import Derived.Laws.Bits64b
import Derived.Deep.QuietTactic
import Derived.BigQuiet
namespace Go.Proofs.YtecaaklbhhjcjaaDoor
open Go.RowKit

/-- what the check of fixed numbers gives -/
def AwakeSays (W : World) : Prop := ∀ w, Ext W w → Calls Tryd.prog 5 #[] w fun e w' => e = .returned (.bool true) ∧ Ext w w'

theorem boxes_in (w : World) (nb : Bool) (ao : Option Addr) (n ca : Nat) (mb : Bool) (bo : Option Addr) (m cb : Nat) (lb : Bool) (co : Option Addr) (l cc : Nat) :
    ∃ W, W = ((w.alloc (.cells #[.bool nb, .slice ao n ca] 24)).alloc (.cells #[.bool mb, .slice bo m cb] 24)).alloc (.cells #[.bool lb, .slice co l cc] 24) ∧ Ext w W ∧
      Box W w.heap.size nb ao n ca ∧ Box W (w.heap.size + 1) mb bo m cb ∧ Box W (w.heap.size + 1 + 1) lb co l cc := by
  refine ⟨_, rfl, (((Below.refl _ w).alloc (Nat.le_refl _) _).alloc (by simp) _).alloc (by simp; omega) _, ?_, ?_, ?_⟩
  · exact (Box.new w nb ao n ca).below (((Below.refl _ _).alloc (Nat.le_refl _) _).alloc (by simp) _)
  · have := (Box.new (w.alloc (.cells #[.bool nb, .slice ao n ca] 24)) mb bo m cb).below ((Below.refl _ _).alloc (Nat.le_refl _) (.cells #[.bool lb, .slice co l cc] 24))
    simpa using this
  · have := Box.new ((w.alloc (.cells #[.bool nb, .slice ao n ca] 24)).alloc (.cells #[.bool mb, .slice bo m cb] 24)) lb co l cc
    simpa using this

end Go.Proofs.YtecaaklbhhjcjaaDoor

namespace Go.Proofs.YtecaaklbhhjcjaaDoor
open Go.RowKit

theorem or_hl {h l : Int} (h0 : 0 ≤ h) (h1 : h < 4294967296) (l0 : 0 ≤ l) (l1 : l < 4294967296) : bits BinOp.or IntKind.u64 (h * 4294967296) l = h * 4294967296 + l := by
  obtain ⟨a, rfl⟩ := Int.eq_ofNat_of_zero_le h0
  obtain ⟨b, rfl⟩ := Int.eq_ofNat_of_zero_le l0
  have e := bits_or_u64_nat (a * 4294967296) b (by omega) (by omega)
  have e2 : a * 4294967296 ||| b = a * 4294967296 + b := by
    have := Nat.two_pow_add_eq_or_of_lt (i := 32) (b := b) (by omega) a
    rw [show (2 : Nat) ^ 32 = 4294967296 from rfl] at this
    rw [Nat.mul_comm a, ← this]
  rw [e2] at e
  simpa using e

set_option maxRecDepth 100000 in
set_option maxHeartbeats 1000000 in
theorem div32_any (h l y : Int) (w : World) (h0 : 0 ≤ h) (hy : h < y) (y1 : y < 4294967296) (l0 : 0 ≤ l) (l1 : l < 4294967296) :
    Calls Tryd.prog 63 #[.int .u32 h, .int .u32 l, .int .u32 y] w fun e w' => e = .returned (.tuple #[.int .u32 ((h * 4294967296 + l) / y), .int .u32 ((h * 4294967296 + l) % y)]) ∧ ∃ q, w' = w.drewN q := by
  have hyb : (y != 0) = true := by simp; omega
  have hq0 : 0 ≤ (h * 4294967296 + l) / y := Int.ediv_nonneg (by omega) (by omega)
  have hq1 : (h * 4294967296 + l) / y < 4294967296 := by
    apply Int.ediv_lt_of_lt_mul (by omega)
    have : (h + 1) * 4294967296 ≤ y * 4294967296 := Int.mul_le_mul_of_nonneg_right (by omega) (by omega)
    rw [Int.mul_comm 4294967296 y]
    omega
  have hr0 : 0 ≤ (h * 4294967296 + l) % y := Int.emod_nonneg _ (by omega)
  have hr1 : (h * 4294967296 + l) % y < y := Int.emod_lt_of_pos _ (by omega)
  have hor := or_hl h0 (by omega) l0 l1
  have hge : decide (y ≤ h) = false := by simp; omega
  go_enter Tryd.func63, Tryd.ntmps63
  go_wp2
  go_quiet (fail)
  go_wp2
  go_ret2
  exact ⟨rfl, nq, rfl⟩
end Go.Proofs.YtecaaklbhhjcjaaDoor
