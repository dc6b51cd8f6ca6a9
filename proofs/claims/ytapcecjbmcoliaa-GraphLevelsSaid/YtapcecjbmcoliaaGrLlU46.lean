import Derived.Test.YtapcecjbmcoliaaGrLlU43
import Derived.Test.YtapcecjbmcoliaaGrLlU45
namespace Go.Proofs.Ytapcecjbmcoliaa
open Go Go.RowKit

def pathA (v w : Nat) : Bool := v + 1 == w || w + 1 == v
theorem path_ok : GOk pathA := ⟨fun v w => by unfold pathA; exact Bool.or_comm _ _, fun v => by simp [pathA]⟩
theorem path_adj : adjM 4 pathA = [[1], [0, 2], [1, 3], [2]] := by decide +kernel
theorem path_lev : (lev0 4 pathA 1).map castZ = [[1], [0, 2], [3]] := by decide +kernel
theorem path_per : PerTo 4 pathA 1 3 := by
  have e1 : nextV 4 pathA 1 = 3 := by decide +kernel
  refine .step (by decide +kernel) ?_
  rw [e1]
  exact .stop (by decide +kernel)
theorem path_comps : (comps 4 pathA 4).2.length = 1 := by decide +kernel
theorem alloc_step (w : World) (vs : Array Value) (t : TypeId) : ∃ w1, w.alloc (.cells vs t) = w1 ∧ w1.heap.size = w.heap.size + 1 ∧ Ext w w1 ∧ VBlk w1 w.heap.size vs t :=
  ⟨_, rfl, by simp, (Below.refl _ _).alloc (Nat.le_refl _) _, VBlk.new _ _ _⟩
theorem ns_blk {w : World} {g : Nat} {l : List Int} (h : VBlk w g (l.map (Value.int .i64)).toArray 3) : Ns w (some ⟨g, 0, none⟩) l.length l.length l :=
  ⟨rfl, Nat.le_refl _, fun _ => ⟨g, 0, rfl, fun j hj => by
    rw [Nat.zero_add, VBlk.c h j]
    simp [List.getD, hj]⟩⟩
theorem lit_four (w : World) : ∃ W, ((((((w.alloc (Obj.cells #[Value.int IntKind.i64 1] 3)).alloc (Obj.cells #[Value.int IntKind.i64 0, Value.int IntKind.i64 2] 3)).alloc (Obj.cells #[Value.int IntKind.i64 1, Value.int IntKind.i64 3] 3)).alloc
    (Obj.cells #[Value.int IntKind.i64 2] 3)).alloc (Obj.cells #[Value.slice (some ⟨w.heap.size, 0, none⟩) 1 1, Value.slice (some ⟨w.heap.size + 1, 0, none⟩) 2 2, Value.slice (some ⟨w.heap.size + 1 + 1, 0, none⟩) 2 2, Value.slice (some ⟨w.heap.size + 1 + 1 + 1, 0, none⟩) 1 1] 22)).alloc
    (Obj.cells #[Value.slice (some ⟨w.heap.size + 1 + 1 + 1 + 1, 0, none⟩) 4 4] 27)) = W ∧ Ext w W ∧ Nss W (some ⟨w.heap.size + 1 + 1 + 1 + 1, 0, none⟩) 4 4 (adjM 4 pathA) ∧ GBox W (w.heap.size + 1 + 1 + 1 + 1 + 1) (.slice (some ⟨w.heap.size + 1 + 1 + 1 + 1, 0, none⟩) 4 4) := by
  obtain ⟨w1, h1, s1, e1, b1⟩ := alloc_step w #[Value.int IntKind.i64 1] 3
  obtain ⟨w2, h2, s2, e2, b2⟩ := alloc_step w1 #[Value.int IntKind.i64 0, Value.int IntKind.i64 2] 3
  obtain ⟨w3, h3, s3, e3, b3⟩ := alloc_step w2 #[Value.int IntKind.i64 1, Value.int IntKind.i64 3] 3
  obtain ⟨w4, h4, s4, e4, b4⟩ := alloc_step w3 #[Value.int IntKind.i64 2] 3
  obtain ⟨w5, h5, s5, e5, b5⟩ := alloc_step w4 #[Value.slice (some ⟨w.heap.size, 0, none⟩) 1 1, Value.slice (some ⟨w.heap.size + 1, 0, none⟩) 2 2, Value.slice (some ⟨w.heap.size + 1 + 1, 0, none⟩) 2 2, Value.slice (some ⟨w.heap.size + 1 + 1 + 1, 0, none⟩) 1 1] 22
  obtain ⟨w6, h6, s6, e6, b6⟩ := alloc_step w5 #[Value.slice (some ⟨w.heap.size + 1 + 1 + 1 + 1, 0, none⟩) 4 4] 27
  rw [h1, h2, h3, h4, h5, h6]
  rw [s1] at s2 b2
  rw [s2] at s3 b3
  rw [s3] at s4 b4
  rw [s4] at s5 b5
  rw [s5] at b6
  have f1 := ((((b1.below e2).below e3).below e4).below e5).below e6
  have f2 := (((b2.below e3).below e4).below e5).below e6
  have f3 := ((b3.below e4).below e5).below e6
  have f4 := (b4.below e5).below e6
  have f5 := b5.below e6
  have n1 : Ns w6 _ 1 1 [1] := ns_blk (l := [1]) f1
  have n2 : Ns w6 _ 2 2 [0, 2] := ns_blk (l := [0, 2]) f2
  have n3 : Ns w6 _ 2 2 [1, 3] := ns_blk (l := [1, 3]) f3
  have n4 : Ns w6 _ 1 1 [2] := ns_blk (l := [2]) f4
  refine ⟨w6, rfl, Ext.trans e1 (Ext.trans e2 (Ext.trans e3 (Ext.trans e4 (Ext.trans e5 e6)))), ?_, b6⟩
  rw [path_adj]
  refine ⟨rfl, Nat.le_refl _, fun _ => ⟨_, 0, rfl, fun i hi => ?_⟩⟩
  have hc := VBlk.c f5
  match i, hi with
  | 0, _ => exact ⟨_, _, hc 0, n1⟩
  | 1, _ => exact ⟨_, _, hc 1, n2⟩
  | 2, _ => exact ⟨_, _, hc 2, n3⟩
  | 3, _ => exact ⟨_, _, hc 3, n4⟩
theorem lit_three (w : World) : ∃ W, ((((w.alloc (Obj.cells #[Value.int IntKind.i64 1] 3)).alloc (Obj.cells #[Value.int IntKind.i64 0, Value.int IntKind.i64 2] 3)).alloc (Obj.cells #[Value.int IntKind.i64 3] 3)).alloc
    (Obj.cells #[Value.slice (some ⟨w.heap.size, 0, none⟩) 1 1, Value.slice (some ⟨w.heap.size + 1, 0, none⟩) 2 2, Value.slice (some ⟨w.heap.size + 1 + 1, 0, none⟩) 1 1] 22)) = W ∧ Ext w W ∧ Nss W (some ⟨w.heap.size + 1 + 1 + 1, 0, none⟩) 3 3 [[1], [0, 2], [3]] := by
  obtain ⟨w1, h1, s1, e1, b1⟩ := alloc_step w #[Value.int IntKind.i64 1] 3
  obtain ⟨w2, h2, s2, e2, b2⟩ := alloc_step w1 #[Value.int IntKind.i64 0, Value.int IntKind.i64 2] 3
  obtain ⟨w3, h3, s3, e3, b3⟩ := alloc_step w2 #[Value.int IntKind.i64 3] 3
  obtain ⟨w4, h4, s4, e4, b4⟩ := alloc_step w3 #[Value.slice (some ⟨w.heap.size, 0, none⟩) 1 1, Value.slice (some ⟨w.heap.size + 1, 0, none⟩) 2 2, Value.slice (some ⟨w.heap.size + 1 + 1, 0, none⟩) 1 1] 22
  rw [h1, h2, h3, h4]
  rw [s1] at s2 b2
  rw [s2] at s3 b3
  rw [s3] at b4
  have f1 := ((b1.below e2).below e3).below e4
  have f2 := (b2.below e3).below e4
  have f3 := b3.below e4
  have n1 : Ns w4 _ 1 1 [1] := ns_blk (l := [1]) f1
  have n2 : Ns w4 _ 2 2 [0, 2] := ns_blk (l := [0, 2]) f2
  have n3 : Ns w4 _ 1 1 [3] := ns_blk (l := [3]) f3
  refine ⟨w4, rfl, Ext.trans e1 (Ext.trans e2 (Ext.trans e3 e4)), ?_⟩
  refine ⟨rfl, Nat.le_refl _, fun _ => ⟨_, 0, rfl, fun i hi => ?_⟩⟩
  have hc := VBlk.c b4
  match i, hi with
  | 0, _ => exact ⟨_, _, hc 0, n1⟩
  | 1, _ => exact ⟨_, _, hc 1, n2⟩
  | 2, _ => exact ⟨_, _, hc 2, n3⟩

set_option maxRecDepth 100000 in
set_option maxHeartbeats 8000000 in
theorem gawake_any (w : World) :
    Calls Try.prog 8 #[] w fun e w' => e = .returned (.bool true) ∧ Ext w w' := by
  go_enter Try.func8, Try.ntmps8
  go_upto_region 2 with fail
  obtain ⟨V, hV, hE, hN, hB⟩ := lit_four w
  rw [hV]
  clear hV
  have HW := Lib.hid hE
  have HN := Lib.hid hN
  generalize w.heap.size + 1 + 1 + 1 + 1 = g at *
  have HBX := Lib.hid (show ∀ wx, Ext V wx → wx.cell? ⟨g + 1, 0, none⟩ = some (.slice (some ⟨g, 0, none⟩) 4 4) from fun wx hx => (hB.low hx hB.lt).c)
  have k0 := HBX.out V (Ext.refl _)
  have C1 := Lib.hid (checkG_any (some ⟨g, 0, none⟩) 4 4 pathA V HN.out path_ok (by omega))
  clear hE hN hB
  go_wp2_with fail
  refine C1.out.mono ?_
  rintro e w2 ⟨rfl, hE⟩
  have h2 := Lib.hid hE
  clear hE C1
  have k0 := HBX.out _ h2.out
  have C2 := Lib.hid (peripheral_any (some ⟨g, 0, none⟩) 4 4 1 pathA w2 (HN.out.below h2.out) path_ok (by omega) (by omega))
  go_wp2_with fail
  refine C2.out.mono ?_
  rintro e w3 ⟨p, hp, rfl, hE⟩
  obtain rfl : p = 3 := hp.det path_per
  have h3 := Lib.hid (Ext.trans h2.out hE)
  clear hE C2 hp
  have k0 := HBX.out _ h3.out
  have C3 := Lib.hid (levelsG_any (some ⟨g, 0, none⟩) 4 4 1 pathA w3 (HN.out.below h3.out) path_ok (by omega) (by omega))
  rw [path_lev] at C3
  go_wp2_with fail
  refine C3.out.mono ?_
  rintro e w4 ⟨lv, rs, rfl, hrs, hE⟩
  have h4 := Lib.hid (Ext.trans h3.out hE)
  obtain ⟨po, pc, rfl, -⟩ := hrs.slE
  have hl3 : rs.length = 3 := by rw [← hrs.len]; rfl
  rw [hl3] at hrs ⊢
  have HR := Lib.hid hrs.nssAt
  clear hE C3 hrs
  go_wp2_with fail
  obtain ⟨X, hX, hE, hN3⟩ := lit_three w4
  rw [hX]
  clear hX
  have h5 := Lib.hid (Ext.trans h4.out hE)
  have C4 := Lib.hid (lists_same po _ 3 pc 3 [[1], [0, 2], [3]] X (HR.out.below hE) hN3 (by omega) (fun i hi => by
    match i, hi with
    | 0, _ => decide
    | 1, _ => decide
    | 2, _ => decide))
  clear hE hN3
  refine C4.out.mono ?_
  rintro e w5 ⟨rfl, hE⟩
  have h6 := Lib.hid (Ext.trans h5.out hE)
  clear hE C4
  have k0 := HBX.out _ h6.out
  have C5 := Lib.hid (components_any (some ⟨g, 0, none⟩) 4 4 pathA w5 (HN.out.below h6.out) path_ok (by omega))
  go_wp2_with fail
  refine C5.out.mono ?_
  rintro e w6 ⟨cv, rs2, rfl, hrs2, hE⟩
  have h7 := Lib.hid (Ext.trans HW.out (Ext.trans h6.out hE))
  obtain ⟨po2, pc2, rfl, -⟩ := hrs2.slE
  have hl1 : rs2.length = 1 := by rw [← hrs2.len]; exact path_comps
  rw [hl1]
  clear hE C5 hrs2 hl1
  go_wp2
  go_ret
  exact ⟨rfl, h7.out⟩
end Go.Proofs.Ytapcecjbmcoliaa
