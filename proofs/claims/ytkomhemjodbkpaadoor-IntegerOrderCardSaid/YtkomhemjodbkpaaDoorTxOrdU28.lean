import Derived.Test.YtkomhemjodbkpaaDoorTxOrdU4
import Derived.Test.YtkomhemjodbkpaaDoorTxOrdU10
import Derived.Shelf.Strings.BuilderK
import Derived.Test.YtkomhemjodbkpaaDoorProg
namespace Go.Proofs.YtkomhemjodbkpaaDoor
open Go.RowKit

set_option maxRecDepth 100000 in
set_option maxHeartbeats 1000000 in
theorem split_leaf (x : Int) (ao : Option Addr) (ca : Nat) (g : Nat) (L : List Int) (w : World) (ha : Sl w ao 1 ca [x]) (hb : Blk w g L) (hL : L.length = 1) (hst : Stay g w ao [x]) :
    Calls Tryd.prog 47 #[.slice ao 1 ca, .slice none 0 0, .slice (some ⟨g, 0, none⟩) 1 1] w fun e w' => e = .returned (.tuple #[]) ∧ Blk w' g [x] ∧ Only g w w' := by
  obtain ⟨b, off, rfl, hc⟩ := ha.cells (by simp)
  have c1 := hc 0 (by simp)
  rw [Nat.add_zero] at c1
  have c1' : w.cell? ⟨b, off, none⟩ = some (.int .u32 x) := by simpa [List.getD] using c1
  obtain ⟨y, rfl⟩ : ∃ y, L = [y] := by
    match L, hL with
    | [y], _ => exact ⟨y, rfl⟩
  have c2 := hb.cell 0 (by simp)
  have c3 := hb.frozen 0
  have hfin := hb.set 0 x
  clear hc c1
  go_enter Tryd.func47, Tryd.ntmps47
  go_wp2
  refine bodyPost_ret (results_none rfl _ _ _) rfl ?_
  exact ⟨rfl, by simpa using hfin, only_set1 _ _ _ _⟩

set_option maxRecDepth 100000 in
set_option maxHeartbeats 1000000 in
/-- one group -/
theorem groups_small (a : Nat) (ao : Option Addr) (ca : Nat) (w : World) (ha : Sl w ao 1 ca (limbs a)) (h0 : 0 < a) (h1 : a < 1000000000) :
    Calls Tryd.prog 28 #[.slice ao 1 ca] w fun e w' => ∃ g, e = .returned (.slice (some ⟨g, 0, none⟩) 1 1) ∧ Blk w' g [(a : Int)] ∧ Below w.heap.size w w' := by
  have hla : limbs a = [(a : Int)] := by
    rw [limbs_pos (by omega), show a / 4294967296 = 0 by omega, limbs_zero, show a % 4294967296 = a by omega]
  have hlb : limbs 1000000000 = [(1000000000 : Int)] := by
    rw [limbs_pos (by omega), show 1000000000 / 4294967296 = 0 by omega, limbs_zero]; rfl
  have hge : decide (0 ≤ sgn3 (a : Int) ((1000000000 : Nat) : Int)) = false := by simp [sgn3]; omega
  have hge2 : decide (0 ≤ sgn3 (a : Int) 1000000000) = false := hge
  have hB := (Below.refl w.heap.size w).alloc (Nat.le_refl _) (.cells #[.int .u32 1000000000] 47)
  have hbp : Blk (w.alloc (.cells #[.int .u32 1000000000] 47)) w.heap.size [1000000000] := heap_alloc_new w _
  have hsp := hbp.sl (n := 1) (cap := 1) (Wf.cons (by omega) Wf.nil) rfl (by omega) (Nat.le_refl _)
  rw [← hlb] at hsp
  have hsa := ha.below hB
  go_enter Tryd.func28, Tryd.ntmps28
  go_wp2_with fail
  generalize w.alloc (.cells #[.int .u32 1000000000] 47) = W at *
  generalize hg : w.heap.size = B at *
  have HG := Lib.hid hg; clear hg
  have HA := Lib.hid hla; clear hla
  refine wp_loop_rounds 1 ?_
  rw [rounds_succ]
  go_wp2_with fail
  refine (compare_any _ _ _ _ _ _ _ _ _ hsa hsp).mono ?_
  rintro e w1 ⟨rfl, q, rfl⟩
  go_wp2_with (refine wpList_make_u32 _ rfl _ _ rfl _ 1 rfl rfl rfl (by omega) ?_)
  intro w2 hb2 hw2
  have hq := below_drewN (Below.refl W.heap.size W) q
  have hw2' := hq.trans hw2
  have hsa2 := hsa.below hw2'
  have hst := hsa.cells.stay_below hw2' (Nat.le_refl _)
  rw [HA.out] at hsa2 hst
  have hb2' : Blk w2 W.heap.size [0] := hb2
  generalize hg2 : W.heap.size = B2 at *
  have HG2 := Lib.hid hg2; clear hg2
  go_wp2_with fail
  refine (split_leaf a ao ca B2 _ w2 hsa2 hb2' rfl hst).mono ?_
  rintro e w3 ⟨rfl, hb3, ho3⟩
  go_wp2
  go_ret
  refine ⟨_, rfl, hb3, ?_⟩
  have h3 := hw2'.trans (ho3.below (Nat.le_refl _))
  rw [HG.out]
  exact hB.trans (h3.mono (by rw [← HG2.out]; exact Nat.le_of_lt hbp.lt))

set_option maxRecDepth 1000000 in
theorem small_1 (w : World) : Calls Tryd.prog 30 #[.int .u64 1, .int .i64 10] w fun e w' => e = .returned (.string ⟨#[49]⟩) ∧ w = w' := by
  go_enter Tryd.func30, Tryd.ntmps30
  go_wp2_with go_in
  go_ret
  exact ⟨rfl, rfl⟩
set_option maxRecDepth 1000000 in
theorem small_14 (w : World) : Calls Tryd.prog 30 #[.int .u64 14, .int .i64 10] w fun e w' => e = .returned (.string ⟨#[49, 52]⟩) ∧ w = w' := by
  go_enter Tryd.func30, Tryd.ntmps30
  go_wp2_with go_in
  go_ret
  exact ⟨rfl, rfl⟩
end Go.Proofs.YtkomhemjodbkpaaDoor

namespace Go.Proofs
open Go.Shelf
def Tryd.lays169_ren : Go.Shelf.Ren := ⟨fun | 169 => 33 | n => n, fun | 70 => 51 | 9 => 9 | 0 => 0 | 72 => 54 | 37 => 52 | 127 => 82 | 3 => 3 | 5 => 5 | n => n, fun | n => n⟩
theorem Tryd.lays169 : Go.Proofs.Lays.n169 Tryd.prog Tryd.lays169_ren := {
  mixed := by kernel_rfl
  f169 := Tryd.func33.trans (congrArg some (by kernel_rfl))
  t0 := Tryd.underlying0
  a0 := Tryd.isAgg0
  z0 := Tryd.sizeOf0
  v0 := Tryd.zeroValue0
  t3 := Tryd.underlying3
  a3 := Tryd.isAgg3
  z3 := Tryd.sizeOf3
  v3 := Tryd.zeroValue3
  t9 := Tryd.underlying9
  a9 := Tryd.isAgg9
  z9 := Tryd.sizeOf9
  v9 := Tryd.zeroValue9
  t37 := Tryd.underlying52
  a37 := Tryd.isAgg52
  z37 := Tryd.sizeOf52
  v37 := Tryd.zeroValue52
  t70 := Tryd.underlying51
  a70 := Tryd.isAgg51
  z70 := Tryd.sizeOf51
  v70 := Tryd.zeroValue51
  t72 := Tryd.underlying54
  a72 := Tryd.isAgg54
  z72 := Tryd.sizeOf54
  v72 := Tryd.zeroValue54
  t127 := Tryd.underlying82
  a127 := Tryd.isAgg82
  z127 := Tryd.sizeOf82
  v127 := Tryd.zeroValue82 }
theorem Tryd.Builder_Extra_169 : Builder.Extra Tryd.prog Tryd.lays169_ren := {
  sizeBuilder := by kernel_rfl
  liesBuilder := by kernel_rfl
  t5 := Tryd.underlying5
  a5 := Tryd.isAgg5
  z5 := Tryd.sizeOf5
  v5 := Tryd.zeroValue5
  infoByte := by kernel_rfl
  cellsByte := by kernel_rfl
  sizeByte := by kernel_rfl
  neB5 := by decide }
open Go.RowKit in
theorem Tryd.Builder_String_any_k (B b : Nat) (l : List UInt8) (w : World) (h : Lib.IsBuilderF 54 5 B b (Lib.byteCells l) w) (hBw : B ≤ w.heap.size) :
    Calls Tryd.prog 33 #[.pointer (some ⟨b, 0, none⟩)] w fun e w' => e = .returned (.string ⟨l.toArray⟩) ∧ (Lib.IsBuilderF 54 5 B b (Lib.byteCells l) w' ∧ Below B w w' ∧ Lib.OthersKept 5 (some b) w w') := Any.Builder_String_any_k Tryd.lays169 Tryd.Builder_Extra_169 B b l w h hBw
end Go.Proofs
