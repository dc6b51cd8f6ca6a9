import Derived.Test.YtlpclahlolhjfaaDoorMoPlU11
import Derived.Test.YtlpclahlolhjfaaDoorMoPlU4
namespace Go.Proofs.YtlpclahlolhjfaaDoor
open Go.RowKit

theorem splice_zero (n : Nat) (zs : List Int) : splice (List.replicate n 0) 0 zs = zs ++ List.replicate (n - zs.length) 0 := by
  simp [splice]

theorem num_zeros (a n : Nat) : num (limbs a ++ List.replicate n 0) = a := by
  rw [num_append, num_limbs, num_replicate]; omega

theorem sum_fits {a b n m : Nat} (ha : (limbs a).length = n) (hb : (limbs b).length = m) (h : m ≤ n) : (a : Int) + b < 4294967296 ^ (n + 1) := by
  have h1 := limbs_lt a
  have h2 := (limbs_len_le b n).1 (by omega)
  have h3 : (b : Int) < 4294967296 ^ n := by
    have h4 : ((b : Nat) : Int) < ((4294967296 ^ n : Nat) : Int) := Int.ofNat_lt.2 h2
    rw [Int.natCast_pow] at h4
    exact h4
  rw [ha] at h1
  rw [Int.pow_succ]
  omega

set_option maxRecDepth 100000 in
set_option maxHeartbeats 1000000 in
/-- the longer one first -/
theorem plus_ge (a b : Nat) (ao bo : Option Addr) (n m ca cb : Nat) (w : World) (ha : Sl w ao n ca (limbs a)) (hb : Sl w bo m cb (limbs b)) (hmn : m ≤ n) (hn : n ≤ 1000000000000) :
    Calls Tryd.prog 49 #[.slice ao n ca, .slice bo m cb] w fun e w' => ∃ ao' k cap, e = .returned (.slice ao' k cap) ∧ Sl w' ao' k cap (limbs (a + b)) ∧ Below w.heap.size w w' := by
  go_enter Tryd.func49, Tryd.ntmps49
  go_wp2_with (refine wpList_make_u32 _ rfl _ _ rfl _ (n + 1) rfl rfl (by omega) (by omega) ?_)
  intro w1 hb1 hw1
  go_wp2_with (with_reducible refine wpList_copy_u32 rfl (.tmp 17) (.tmp 18) rfl Tryd.underlying34 Tryd.sizeU32 _ 0 (n + 1) (n + 1) ao n ca rfl rfl _ hb1 (limbs a) (ha.below hw1) (by omega) (by simp) ?_)
  intro w2 hb2 hw2
  have hw2' := hw1.trans (hw2.below (Nat.le_refl _))
  rw [splice_zero, ha.len, show n + 1 - n = 1 by omega] at hb2
  have hst := hb.cells.stay_below hw2' (Nat.le_refl _)
  have hbl := hb.len
  have hal := ha.len
  have hadd := addTo_any w.heap.size (n + 1) (n + 1) m cb bo (limbs a ++ List.replicate 1 0) (limbs b) w2 hb2 (by simp [hal]) ((Wf.limbs a).append (Wf.replicate 1)) (by omega) hbl (Wf.limbs b) (by omega) hst
    (by rw [num_zeros, num_limbs]; exact sum_fits hal hbl hmn)
  rw [num_zeros, num_limbs] at hadd
  have HADD := Lib.hid hadd
  clear hadd hst hb2 hb1 hbl hal
  go_wp2_with (go_at_call 68; refine HADD.out.mono ?_; rintro e w3 ⟨rfl, L', hb3, hl3, hwf3, hnum, ho3⟩; have HL3 := Lib.hid hl3; clear hl3; have HN := Lib.hid hnum; clear hnum)
  refine (trim_sl _ _ _ L' w3 (hb3.sl hwf3 HL3.out (by omega) (Nat.le_refl _))).mono ?_
  rintro e w4 ⟨k, rfl, hs, rfl⟩
  go_wp2
  go_ret
  refine ⟨_, k, _, rfl, ?_, hw2'.trans (ho3.below (Nat.le_refl _))⟩
  rw [HN.out, show ((a : Int) + b).toNat = a + b by omega] at hs
  exact hs
set_option maxRecDepth 100000 in
set_option maxHeartbeats 1000000 in
/-- the shorter one first -/
theorem plus_lt (a b : Nat) (ao bo : Option Addr) (n m ca cb : Nat) (w : World) (ha : Sl w ao n ca (limbs a)) (hb : Sl w bo m cb (limbs b)) (hmn : n < m) (hn : m ≤ 1000000000000) :
    Calls Tryd.prog 49 #[.slice ao n ca, .slice bo m cb] w fun e w' => ∃ ao' k cap, e = .returned (.slice ao' k cap) ∧ Sl w' ao' k cap (limbs (a + b)) ∧ Below w.heap.size w w' := by
  go_enter Tryd.func49, Tryd.ntmps49
  go_wp2_with (refine wpList_make_u32 _ rfl _ _ rfl _ (m + 1) rfl rfl (by omega) (by omega) ?_)
  intro w1 hb1 hw1
  go_wp2_with (with_reducible refine wpList_copy_u32 rfl (.tmp 17) (.tmp 18) rfl Tryd.underlying34 Tryd.sizeU32 _ 0 (m + 1) (m + 1) bo m cb rfl rfl _ hb1 (limbs b) (hb.below hw1) (by omega) (by simp) ?_)
  intro w2 hb2 hw2
  have hw2' := hw1.trans (hw2.below (Nat.le_refl _))
  rw [splice_zero, hb.len, show m + 1 - m = 1 by omega] at hb2
  have hst := ha.cells.stay_below hw2' (Nat.le_refl _)
  have hal := ha.len
  have hbl := hb.len
  have hadd := addTo_any w.heap.size (m + 1) (m + 1) n ca ao (limbs b ++ List.replicate 1 0) (limbs a) w2 hb2 (by simp [hbl]) ((Wf.limbs b).append (Wf.replicate 1)) (by omega) hal (Wf.limbs a) (by omega) hst
    (by rw [num_zeros, num_limbs]; exact sum_fits hbl hal (by omega))
  rw [num_zeros, num_limbs] at hadd
  have HADD := Lib.hid hadd
  clear hadd hst hb2 hb1 hal hbl
  go_wp2_with (go_at_call 68; refine HADD.out.mono ?_; rintro e w3 ⟨rfl, L', hb3, hl3, hwf3, hnum, ho3⟩; have HL3 := Lib.hid hl3; clear hl3; have HN := Lib.hid hnum; clear hnum)
  refine (trim_sl _ _ _ L' w3 (hb3.sl hwf3 HL3.out (by omega) (Nat.le_refl _))).mono ?_
  rintro e w4 ⟨k, rfl, hs, rfl⟩
  go_wp2
  go_ret
  refine ⟨_, k, _, rfl, ?_, hw2'.trans (ho3.below (Nat.le_refl _))⟩
  rw [HN.out, show ((b : Int) + a).toNat = a + b by omega] at hs
  exact hs
/-- the sum -/
theorem plus_any (a b : Nat) (ao bo : Option Addr) (n m ca cb : Nat) (w : World) (ha : Sl w ao n ca (limbs a)) (hb : Sl w bo m cb (limbs b)) (hn : n ≤ 1000000000000) (hm : m ≤ 1000000000000) :
    Calls Tryd.prog 49 #[.slice ao n ca, .slice bo m cb] w fun e w' => ∃ ao' k cap, e = .returned (.slice ao' k cap) ∧ Sl w' ao' k cap (limbs (a + b)) ∧ Below w.heap.size w w' := by
  by_cases h : n < m
  · exact plus_lt a b ao bo n m ca cb w ha hb h hm
  · exact plus_ge a b ao bo n m ca cb w ha hb (by omega) hn
end Go.Proofs.YtlpclahlolhjfaaDoor

namespace Go.Proofs.YtlpclahlolhjfaaDoor
open Go.RowKit

set_option maxRecDepth 100000 in
set_option maxHeartbeats 1000000 in
theorem minus_any (a b : Nat) (ao bo : Option Addr) (n m ca cb : Nat) (w : World) (ha : Sl w ao n ca (limbs a)) (hb : Sl w bo m cb (limbs b)) (hba : b ≤ a) :
    Calls Tryd.prog 50 #[.slice ao n ca, .slice bo m cb] w fun e w' => ∃ ao' k cap, e = .returned (.slice ao' k cap) ∧ Sl w' ao' k cap (limbs (a - b)) ∧ Below w.heap.size w w' := by
  have hn := ha.big
  go_enter Tryd.func50, Tryd.ntmps50
  go_wp2_with fail
  refine (clone_any ao n ca (limbs a) w ha).mono ?_
  rintro e w2 ⟨rfl, hb2, hw2⟩
  have hst := hb.cells.stay_below hw2 (Nat.le_refl _)
  have hbl := hb.len
  have hal := ha.len
  have hmn : m ≤ n := by rw [← hbl, ← hal]; exact limbs_mono hba
  have hadd := subFrom_any w.heap.size n n m cb bo (limbs a) (limbs b) w2 hb2 hal (Wf.limbs a) hn hbl (Wf.limbs b) hmn hst
    (by rw [num_limbs, num_limbs]; omega)
  rw [num_limbs, num_limbs] at hadd
  have HADD := Lib.hid hadd
  clear hadd hst hb2 hbl hal
  go_wp2_with fail
  refine HADD.out.mono ?_
  rintro e w3 ⟨rfl, L', hb3, hl3, hwf3, hnum, ho3⟩
  have HL3 := Lib.hid hl3; clear hl3; have HN := Lib.hid hnum; clear hnum
  go_wp2_with fail
  refine (trim_sl _ _ _ L' w3 (hb3.sl hwf3 HL3.out (by omega) (Nat.le_refl _))).mono ?_
  rintro e w4 ⟨k, rfl, hs, rfl⟩
  go_wp2
  go_ret
  refine ⟨_, k, _, rfl, ?_, hw2.trans (ho3.below (Nat.le_refl _))⟩
  rw [HN.out, show ((a : Int) - b).toNat = a - b by omega] at hs
  exact hs
end Go.Proofs.YtlpclahlolhjfaaDoor
