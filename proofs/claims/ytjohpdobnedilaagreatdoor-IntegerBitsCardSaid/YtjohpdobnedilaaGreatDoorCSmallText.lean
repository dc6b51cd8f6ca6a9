/- What integer.split and groups do for a number below the group base. -/
import Derived.Test.YtjohpdobnedilaaGreatDoorGa
import Derived.Test.YtjohpdobnedilaaGreatDoorGb
namespace Go.Proofs.YtjohpdobnedilaaGreatDoor
open Go.RowKit

set_option maxRecDepth 100000 in
set_option maxHeartbeats 1000000 in
theorem split_leaf (x : Int) (ao : Option Addr) (ca : Nat) (g : Nat) (L : List Int) (w : World) (ha : Sl w ao 1 ca [x]) (hb : Blk w g L) (hL : L.length = 1) (hst : Stay g w ao [x]) :
    Calls Tryz.prog 206 #[.slice ao 1 ca, .slice none 0 0, .slice (some ⟨g, 0, none⟩) 1 1] w fun e w' => e = .returned (.tuple #[]) ∧ Blk w' g [x] ∧ Only g w w' := by
  obtain ⟨b, off, rfl, hc⟩ := ha.cells (by simp)
  have c1 := hc 0 (by simp)
  rw [Nat.add_zero] at c1
  have c1' : w.cell? ⟨b, off, none⟩ = some (.int .u32 x) := by simpa [List.getD] using c1
  obtain ⟨y, rfl⟩ : ∃ y, L = [y] := by
    match L, hL with
    | [y], _ => exact ⟨y, rfl⟩
  have c2 := hb.cell 0 (by simp)
  have c3 := hb.frozen 0
  have hfin := hb.set 0 x
  clear hc c1
  go_enter Tryz.func206, Tryz.ntmps206
  go_wp2
  refine bodyPost_ret (results_none rfl _ _ _) rfl ?_
  exact ⟨rfl, by simpa using hfin, only_set1 _ _ _ _⟩

set_option maxRecDepth 100000 in
set_option maxHeartbeats 1000000 in
/-- one group -/
theorem groups_small (a : Nat) (ao : Option Addr) (ca : Nat) (w : World) (ha : Sl w ao 1 ca (limbs a)) (h0 : 0 < a) (h1 : a < 1000000000) :
    Calls Tryz.prog 169 #[.slice ao 1 ca] w fun e w' => ∃ g, e = .returned (.slice (some ⟨g, 0, none⟩) 1 1) ∧ Blk w' g [(a : Int)] ∧ Below w.heap.size w w' := by
  have hla : limbs a = [(a : Int)] := by
    rw [limbs_pos (by omega), show a / 4294967296 = 0 by omega, limbs_zero, show a % 4294967296 = a by omega]
  have hlb : limbs 1000000000 = [(1000000000 : Int)] := by
    rw [limbs_pos (by omega), show 1000000000 / 4294967296 = 0 by omega, limbs_zero]; rfl
  have hge : decide (0 ≤ sgn3 (a : Int) ((1000000000 : Nat) : Int)) = false := by simp [sgn3]; omega
  have hge2 : decide (0 ≤ sgn3 (a : Int) 1000000000) = false := hge
  have hB := (Below.refl w.heap.size w).alloc (Nat.le_refl _) (.cells #[.int .u32 1000000000] 64)
  have hbp : Blk (w.alloc (.cells #[.int .u32 1000000000] 64)) w.heap.size [1000000000] := heap_alloc_new w _
  have hsp := hbp.sl (n := 1) (cap := 1) (Wf.cons (by omega) Wf.nil) rfl (by omega) (Nat.le_refl _)
  rw [← hlb] at hsp
  have hsa := ha.below hB
  go_enter Tryz.func169, Tryz.ntmps169
  go_wp2_with fail
  generalize w.alloc (.cells #[.int .u32 1000000000] 64) = W at *
  generalize hg : w.heap.size = B at *
  have HG := Lib.hid hg; clear hg
  have HA := Lib.hid hla; clear hla
  refine wp_loop_rounds 1 ?_
  rw [rounds_succ]
  go_wp2_with fail
  refine (compare_any _ _ _ _ _ _ _ _ _ hsa hsp).mono ?_
  rintro e w1 ⟨rfl, q, rfl⟩
  go_wp2_with (refine wpList_make_u32 _ rfl _ _ rfl _ 1 rfl rfl rfl (by omega) ?_)
  intro w2 hb2 hw2
  have hq := below_drewN (Below.refl W.heap.size W) q
  have hw2' := hq.trans hw2
  have hsa2 := hsa.below hw2'
  have hst := hsa.cells.stay_below hw2' (Nat.le_refl _)
  rw [HA.out] at hsa2 hst
  have hb2' : Blk w2 W.heap.size [0] := hb2
  generalize hg2 : W.heap.size = B2 at *
  have HG2 := Lib.hid hg2; clear hg2
  go_wp2_with fail
  refine (split_leaf a ao ca B2 _ w2 hsa2 hb2' rfl hst).mono ?_
  rintro e w3 ⟨rfl, hb3, ho3⟩
  go_wp2
  go_ret
  refine ⟨_, rfl, hb3, ?_⟩
  have h3 := hw2'.trans (ho3.below (Nat.le_refl _))
  rw [HG.out]
  exact hB.trans (h3.mono (by rw [← HG2.out]; exact Nat.le_of_lt hbp.lt))

set_option maxRecDepth 1000000 in
theorem small_1 (w : World) : Calls Tryz.prog 171 #[.int .u64 1, .int .i64 10] w fun e w' => e = .returned (.string ⟨#[49]⟩) ∧ w = w' := by
  go_enter Tryz.func171, Tryz.ntmps171
  go_wp2_with go_in
  go_ret
  exact ⟨rfl, rfl⟩
set_option maxRecDepth 1000000 in
theorem small_14 (w : World) : Calls Tryz.prog 171 #[.int .u64 14, .int .i64 10] w fun e w' => e = .returned (.string ⟨#[49, 52]⟩) ∧ w = w' := by
  go_enter Tryz.func171, Tryz.ntmps171
  go_wp2_with go_in
  go_ret
  exact ⟨rfl, rfl⟩
end Go.Proofs.YtjohpdobnedilaaGreatDoor
