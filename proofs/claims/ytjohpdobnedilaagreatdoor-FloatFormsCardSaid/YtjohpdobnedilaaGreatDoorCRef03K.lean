/- What the reference's small questions about a float answer: is it infinite, is it a zero. -/
import Derived.Test.YtjohpdobnedilaaGreatDoorIg
namespace Go.Proofs.YtjohpdobnedilaaGreatDoor
open Go.RowKit

set_option maxRecDepth 100000 in
theorem refInf_any (f : Nat) (hf : f < 18446744073709551616) (b : Bool) (hb : (fkind f == 2) = b) (w : World) :
    Calls Tryz.prog 139 #[.int .u64 (f : Int)] w fun e w' => e = .returned (.bool b) ∧ w = w' := by
  have HK := Lib.hid hb
  clear hb
  go_enter Tryz.func139, Tryz.ntmps139
  go_wp2_with fail
  refine (refKind_any f hf _).mono ?_
  rintro e w' ⟨rfl, rfl⟩
  go_wp2
  go_ret
  exact ⟨ret_bool HK.out, rfl⟩

set_option maxRecDepth 100000 in
theorem refZero_any (f : Nat) (hf : f < 18446744073709551616) (b : Bool) (hb : (fkind f == 0) = b) (w : World) :
    Calls Tryz.prog 83 #[.int .u64 (f : Int)] w fun e w' => e = .returned (.bool b) ∧ w = w' := by
  have HK := Lib.hid hb
  clear hb
  go_enter Tryz.func83, Tryz.ntmps83
  go_wp2_with fail
  refine (refKind_any f hf _).mono ?_
  rintro e w' ⟨rfl, rfl⟩
  go_wp2
  go_ret
  exact ⟨ret_bool HK.out, rfl⟩
end Go.Proofs.YtjohpdobnedilaaGreatDoor
