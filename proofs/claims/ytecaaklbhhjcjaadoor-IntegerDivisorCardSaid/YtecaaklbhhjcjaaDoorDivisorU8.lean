import Derived.Test.YtecaaklbhhjcjaaDoorDivisorU7
import Derived.Test.YtecaaklbhhjcjaaDoorDivisorU3
import Derived.Test.YtecaaklbhhjcjaaDoorDivisorU4
import Derived.Test.YtecaaklbhhjcjaaDoorDivisorU6
import Derived.Deep.RegionHeld3
namespace Go.Proofs.YtecaaklbhhjcjaaDoor
open Go.RowKit

set_option maxRecDepth 100000 in
set_option maxHeartbeats 1000000 in
theorem minus_any (a b : Nat) (ao bo : Option Addr) (n m ca cb : Nat) (w : World) (ha : Sl w ao n ca (limbs a)) (hb : Sl w bo m cb (limbs b)) (hba : b ≤ a) :
    Calls Tryd.prog 27 #[.slice ao n ca, .slice bo m cb] w fun e w' => ∃ ao' k cap, e = .returned (.slice ao' k cap) ∧ Sl w' ao' k cap (limbs (a - b)) ∧ Below w.heap.size w w' := by
  have hn := ha.big
  go_enter Tryd.func27, Tryd.ntmps27
  go_wp2_with fail
  refine (clone_any ao n ca (limbs a) w ha).mono ?_
  rintro e w2 ⟨rfl, hb2, hw2⟩
  have hst := hb.cells.stay_below hw2 (Nat.le_refl _)
  have hbl := hb.len
  have hal := ha.len
  have hmn : m ≤ n := by rw [← hbl, ← hal]; exact limbs_mono hba
  have hadd := subFrom_any w.heap.size n n m cb bo (limbs a) (limbs b) w2 hb2 hal (Wf.limbs a) hn hbl (Wf.limbs b) hmn hst
    (by rw [num_limbs, num_limbs]; omega)
  rw [num_limbs, num_limbs] at hadd
  have HADD := Lib.hid hadd
  clear hadd hst hb2 hbl hal
  go_wp2_with fail
  refine HADD.out.mono ?_
  rintro e w3 ⟨rfl, L', hb3, hl3, hwf3, hnum, ho3⟩
  have HL3 := Lib.hid hl3; clear hl3; have HN := Lib.hid hnum; clear hnum
  go_wp2_with fail
  refine (trim_sl _ _ _ L' w3 (hb3.sl hwf3 HL3.out (by omega) (Nat.le_refl _))).mono ?_
  rintro e w4 ⟨k, rfl, hs, rfl⟩
  go_wp2
  go_ret
  refine ⟨_, k, _, rfl, ?_, hw2.trans (ho3.below (Nat.le_refl _))⟩
  rw [HN.out, show ((a : Int) - b).toNat = a - b by omega] at hs
  exact hs
end Go.Proofs.YtecaaklbhhjcjaaDoor

namespace Go.Proofs.YtecaaklbhhjcjaaDoor
open Go.RowKit

theorem Bg.only_box {w w' : World} {g : Nat} {nb mb : Bool} {ao ro : Option Addr} {n cap k cr : Nat} {x : Int} (h : Bg w mb ro k cr x) (hx : Box w g nb ao n cap) (ho : Only g w w') : Bg w' mb ro k cr x := by
  obtain ⟨⟨zs, h1, h2⟩, h3⟩ := h
  exact ⟨⟨zs, h1.only_box hx ho, h2⟩, h3⟩
theorem Bn.only_box {w w' : World} {g : Nat} {nb mb : Bool} {ao ro : Option Addr} {n cap k cr : Nat} {x : Int} (h : Bn w mb ro k cr x) (hx : Box w g nb ao n cap) (ho : Only g w w') : Bn w' mb ro k cr x :=
  ⟨h.neg, h.sl.only_box hx ho⟩

end Go.Proofs.YtecaaklbhhjcjaaDoor
