import Derived.Test.YtlpclahlolhjfaaGreatDoorMoRlU5
import Derived.LoopN
import Derived.Test.YtlpclahlolhjfaaGreatDoorMoRlU8
import Derived.Deep.CutRange
import Derived.Deep.RegionWith
import Derived.Deep.RegionHeld3
import Derived.Test.YtlpclahlolhjfaaGreatDoorMoRlU28
import Derived.BigQuiet
import Derived.Deep.QuietTactic
namespace Go.Proofs.YtlpclahlolhjfaaGreatDoor
open Go Go.RowKit

/-- block g holds these values, in a block of the call's own -/
def VBlk (W : World) (g : Nat) (vs : Array Value) (t : TypeId) : Prop := W.heap[g]? = some (.cells vs t (0, 0))
theorem VBlk.c {W : World} {g : Nat} {vs : Array Value} {t : TypeId} (h : VBlk W g vs t) (i : Nat) : W.cell? ⟨g, i, none⟩ = vs[i]? := cell_of_row W g i _ _ _ h
theorem VBlk.f {W : World} {g : Nat} {vs : Array Value} {t : TypeId} (h : VBlk W g vs t) (o : Nat) : W.frozen? ⟨g, o, none⟩ = false := by
  unfold VBlk at h; simp [World.frozen?, h]
theorem VBlk.lt {W : World} {g : Nat} {vs : Array Value} {t : TypeId} (h : VBlk W g vs t) : g < W.heap.size := (Array.getElem?_eq_some_iff.1 h).1
theorem VBlk.below {w w' : World} {g : Nat} {vs : Array Value} {t : TypeId} (h : VBlk w g vs t) (hb : Below w.heap.size w w') : VBlk w' g vs t := by
  unfold VBlk; rw [hb.block g h.lt]; exact h
theorem VBlk.only {w w' : World} {g k : Nat} {vs : Array Value} {t : TypeId} (h : VBlk w g vs t) (ho : Only k w w') (hne : g ≠ k) : VBlk w' g vs t := by
  unfold VBlk; rw [ho.block g hne]; exact h
theorem VBlk.new (w : World) (vs : Array Value) (t : TypeId) : VBlk (w.alloc (.cells vs t)) w.heap.size vs t := heap_alloc_new w _
theorem VBlk.set {w : World} {g : Nat} {vs : Array Value} {t : TypeId} (h : VBlk w g vs t) (i : Nat) (v : Value) : VBlk (w.setCell ⟨g, i, none⟩ v) g (vs.setIfInBounds i v) t := by
  unfold VBlk at h ⊢
  simp [World.setCell, Array.getElem?_modify, h]
theorem only_drew {g : Nat} {w w' : World} (h : Only g w w') : Only g w w'.drew := ⟨h.os, h.tape, h.output, h.size, h.block⟩
theorem mr7 : mr 7 = true := by decide +kernel

set_option maxRecDepth 100000 in
set_option maxHeartbeats 2000000 in
theorem width_12 (a g : Nat) (w : World) (h0 : w.cell? ⟨a, 0, none⟩ = some (.slice (some ⟨g, 0, none⟩) 2 2)) :
    Calls Tryz.prog 60 #[.slice (some ⟨a, 0, none⟩) 1 1] w fun e w' => e = .returned (.int .i64 2) ∧ w = w' := by
  go_enter Tryz.func60, Tryz.ntmps60
  go_wp2
  go_ret
  exact ⟨rfl, rfl⟩

theorem make_row (w : World) : (Instr.makeSlice 49 (.int .i64 1) (.int .i64 1)).run Tryz.prog w = .ok (.slice (some ⟨w.heap.size, 0, none⟩) 1 1) (w.alloc (.cells #[.slice none 0 0] 22)) := by kernel_rfl
theorem make_two (w : World) : (Instr.makeSlice 22 (.int .i64 2) (.int .i64 2)).run Tryz.prog w = .ok (.slice (some ⟨w.heap.size, 0, none⟩) 2 2) (w.alloc (.cells #[.int .i64 0, .int .i64 0] 3)) := by kernel_rfl

set_option maxRecDepth 100000 in
set_option maxHeartbeats 4000000 in
theorem residues_12 (a g : Nat) (w : World) (h0 : w.cell? ⟨a, 0, none⟩ = some (.slice (some ⟨g, 0, none⟩) 2 2)) (h1 : w.cell? ⟨g, 0, none⟩ = some (.int .i64 1)) (h2 : w.cell? ⟨g, 1, none⟩ = some (.int .i64 2)) (hT : Table64 w) :
    Calls Tryz.prog 59 #[.slice (some ⟨a, 0, none⟩) 1 1, .int .i64 7] w fun e w' => ∃ b c, e = .returned (.tuple #[.slice (some ⟨b, 0, none⟩) 1 1, .int .i64 0]) ∧ VBlk w' b #[.slice (some ⟨c, 0, none⟩) 2 2] 22 ∧ VBlk w' c #[.int .i64 1, .int .i64 2] 3 ∧ w.heap.size ≤ b ∧ w.heap.size ≤ c ∧ b ≠ c ∧ Ext w w' := by
  have CI := Lib.hid (isPrime_any 7 w hT)
  rw [mr7] at CI
  have hm1 := make_row
  have hm2 := make_two
  have CR1 := Lib.hid (fun w => residue_any 1 7 w (by omega) (by omega))
  have CR2 := Lib.hid (fun w => residue_any 2 7 w (by omega) (by omega))
  clear hT
  go_enter Tryz.func59, Tryz.ntmps59
  go_wp2_with fail
  refine CI.out.mono ?_
  rintro e w1 ⟨rfl, rfl⟩
  go_wp2_with fail
  refine (width_12 a g _ h0).mono ?_
  rintro e w1 ⟨rfl, rfl⟩
  go_wp2
  refine wp_loop_rounds 2 ?_
  rw [rounds_succ]
  go_wp2
  rw [rounds_succ]
  go_wp2
  have hh0 := Lib.hid h0
  have hh1 := Lib.hid h1
  have HA := Lib.hid (show ∀ wx, Ext w wx → wx.cell? ⟨a, 0, none⟩ = some (.slice (some ⟨g, 0, none⟩) 2 2) ∧ wx.cell? ⟨g, 0, none⟩ = some (.int .i64 1) ∧ wx.cell? ⟨g, 1, none⟩ = some (.int .i64 2) from fun wx h =>
    ⟨(h.cell (lt_of_cell h0)).trans h0, (h.cell (lt_of_cell h1)).trans h1, (h.cell (lt_of_cell h2)).trans h2⟩)
  refine wp_loop_rounds 2 ?_
  rw [rounds_succ]
  go_upto_region 17 with fail
  obtain ⟨b, hb⟩ : ∃ b, w.heap.size = b := ⟨_, rfl⟩
  obtain ⟨c, hcx⟩ : ∃ c, w.heap.size + 1 = c := ⟨_, rfl⟩
  have hbc : b ≠ c := by omega
  have n1 := VBlk.new w #[.slice (some ⟨c, 0, none⟩) 2 2] 22
  have n2 : VBlk ((w.alloc (.cells #[.slice (some ⟨c, 0, none⟩) 2 2] 22)).alloc (.cells #[.int .i64 0, .int .i64 0] 3)) (w.heap.size + 1) #[.int .i64 0, .int .i64 0] 3 := by
    have := VBlk.new (w.alloc (.cells #[.slice (some ⟨c, 0, none⟩) 2 2] 22)) #[.int .i64 0, .int .i64 0] 3
    simpa using this
  have hb1 := n1.below ((Below.refl _ _).alloc (Nat.le_refl _) (.cells #[.int .i64 0, .int .i64 0] 3))
  have hc1 := n2
  have HX := Lib.hid (show Ext w ((w.alloc (.cells #[.slice (some ⟨c, 0, none⟩) 2 2] 22)).alloc (.cells #[.int .i64 0, .int .i64 0] 3)) from ((Below.refl _ w).alloc (Nat.le_refl _) _).alloc (by simp) _)
  rw [hcx] at hc1
  rw [hb] at hb1
  have HCB := Lib.hid (show w.heap.size ≤ c by omega)
  have HBB := Lib.hid (show w.heap.size ≤ b by omega)
  rw [hb] at hcx
  simp only [hb, hcx]
  clear n1 n2 CI hm1 hm2
  generalize hVE : ((w.alloc (.cells #[.slice (some ⟨c, 0, none⟩) 2 2] 22)).alloc (.cells #[.int .i64 0, .int .i64 0] 3)) = V at *
  clear hVE hcx
  have hb := hb1
  have hc := hc1
  clear hb1 hc1
  go_wp2
  refine wp_loop_rounds 3 ?_
  rw [rounds_succ]
  obtain ⟨⟨a0, g0, g1⟩, b0, c0, f0, f1⟩ := And.intro (HA.out _ HX.out) (And.intro (hb.c 0) (And.intro (hc.c 0) (And.intro (hc.f 0) (hc.f 1))))
  have HS := Lib.hid (show ∀ wx, Only c V wx → (wx.cell? ⟨a, 0, none⟩ = some (.slice (some ⟨g, 0, none⟩) 2 2) ∧ wx.cell? ⟨g, 0, none⟩ = some (.int .i64 1) ∧ wx.cell? ⟨g, 1, none⟩ = some (.int .i64 2)) ∧ wx.cell? ⟨b, 0, none⟩ = some (.slice (some ⟨c, 0, none⟩) 2 2) from fun wx h =>
    ⟨⟨(World.cell?_of_block (w := V) (h.block a (by have := lt_of_cell hh0.out; have := HCB.out; omega))).trans a0, (World.cell?_of_block (w := V) (h.block g (by have := lt_of_cell hh1.out; have := HCB.out; omega))).trans g0, (World.cell?_of_block (w := V) (h.block g (by have := lt_of_cell hh1.out; have := HCB.out; omega))).trans g1⟩, (World.cell?_of_block (w := V) (h.block b hbc)).trans b0⟩)
  go_upto_region 20 with fail
  first | (go_region_held3 (fun wx => (wx.cell? ⟨a, 0, none⟩ = some (.slice (some ⟨g, 0, none⟩) 2 2) ∧ wx.cell? ⟨g, 0, none⟩ = some (.int .i64 1) ∧ wx.cell? ⟨g, 1, none⟩ = some (.int .i64 2)) ∧ wx.cell? ⟨b, 0, none⟩ = some (.slice (some ⟨c, 0, none⟩) 2 2))
    (first | exact HS.out _ (by repeat (first | exact Only.refl _ _ | exact (Only.refl _ _).setCell _ _ | refine only_drew ?_)))
    (first | (go_at_call 53; refine (CR1.out _).mono ?_; rintro e w9 ⟨rfl, rfl⟩))) | fail "no walk"
  have o1 := only_set1 V c 0 (.int .i64 1)
  have hb2 := hb.only o1 hbc
  have hc2 : VBlk _ c #[.int .i64 1, .int .i64 0] 3 := hc.set 0 (.int .i64 1)
  have HX2 := Lib.hid (show Ext w _ from Below.trans HX.out (o1.below HCB.out))
  clear a0 g0 g1 b0 c0 f0 f1 HS o1 hb hc HX
  generalize hVE : V.setCell ⟨c, 0, none⟩ (.int .i64 1) = V2 at *
  clear hVE
  have hb := hb2
  have hc := hc2
  have HX := HX2
  clear hb2 hc2 HX2
  go_wp2
  rw [rounds_succ]
  obtain ⟨⟨a0, g0, g1⟩, b0, c0, f0, f1⟩ := And.intro (HA.out _ HX.out) (And.intro (hb.c 0) (And.intro (hc.c 1) (And.intro (hc.f 0) (hc.f 1))))
  have HS := Lib.hid (show ∀ wx, Only c V2 wx → (wx.cell? ⟨a, 0, none⟩ = some (.slice (some ⟨g, 0, none⟩) 2 2) ∧ wx.cell? ⟨g, 0, none⟩ = some (.int .i64 1) ∧ wx.cell? ⟨g, 1, none⟩ = some (.int .i64 2)) ∧ wx.cell? ⟨b, 0, none⟩ = some (.slice (some ⟨c, 0, none⟩) 2 2) from fun wx h =>
    ⟨⟨(World.cell?_of_block (w := V2) (h.block a (by have := lt_of_cell hh0.out; have := HCB.out; omega))).trans a0, (World.cell?_of_block (w := V2) (h.block g (by have := lt_of_cell hh1.out; have := HCB.out; omega))).trans g0, (World.cell?_of_block (w := V2) (h.block g (by have := lt_of_cell hh1.out; have := HCB.out; omega))).trans g1⟩, (World.cell?_of_block (w := V2) (h.block b hbc)).trans b0⟩)
  go_upto_region 20 with fail
  first | (go_region_held3 (fun wx => (wx.cell? ⟨a, 0, none⟩ = some (.slice (some ⟨g, 0, none⟩) 2 2) ∧ wx.cell? ⟨g, 0, none⟩ = some (.int .i64 1) ∧ wx.cell? ⟨g, 1, none⟩ = some (.int .i64 2)) ∧ wx.cell? ⟨b, 0, none⟩ = some (.slice (some ⟨c, 0, none⟩) 2 2))
    (first | exact HS.out _ (by repeat (first | exact Only.refl _ _ | exact (Only.refl _ _).setCell _ _ | refine only_drew ?_)))
    (first | (go_at_call 53; refine (CR2.out _).mono ?_; rintro e w9 ⟨rfl, rfl⟩))) | fail "no walk"
  have o1 := only_set1 V2 c 1 (.int .i64 2)
  have hb2 := hb.only o1 hbc
  have hc2 : VBlk _ c #[.int .i64 1, .int .i64 2] 3 := hc.set 1 (.int .i64 2)
  have HX2 := Lib.hid (show Ext w _ from Below.trans HX.out (o1.below HCB.out))
  clear a0 g0 g1 b0 c0 f0 f1 HS o1 hb hc HX
  generalize hVE : V2.setCell ⟨c, 1, none⟩ (.int .i64 2) = V3 at *
  clear hVE
  have hb := hb2
  have hc := hc2
  have HX := HX2
  clear hb2 hc2 HX2
  go_wp2
  rw [rounds_succ]
  go_wp2
  rw [rounds_succ]
  go_wp2
  go_ret2
  exact ⟨b, c, rfl, hb, hc, HBB.out, HCB.out, hbc, HX.out.drew.drew⟩
end Go.Proofs.YtlpclahlolhjfaaGreatDoor

namespace Go.Proofs.YtlpclahlolhjfaaGreatDoor
open Go Go.RowKit

set_option maxRecDepth 100000 in
set_option maxHeartbeats 2000000 in
theorem findPivot_yes (e b c pc : Nat) (w : World) (he : VBlk w e #[.int .i64 7, .slice (some ⟨b, 0, none⟩) 1 1, .slice none 0 pc, .int .i64 1] 75) (hb : VBlk w b #[.slice (some ⟨c, 0, none⟩) 2 2] 22) (hc : VBlk w c #[.int .i64 1, .int .i64 2] 3) :
    Calls Tryz.prog 96 #[.pointer (some ⟨e, 0, none⟩), .int .i64 0] w fun r w' => r = .returned (.bool true) ∧ w = w' := by
  have e0 := he.c 0
  have e1 := he.c 1
  have e2 := he.c 2
  have e3 := he.c 3
  have b0 := hb.c 0
  have c0 := hc.c 0
  have c1 := hc.c 1
  clear he hb hc
  go_enter Tryz.func96, Tryz.ntmps96
  go_wp2
  refine wp_loop_rounds 1 ?_
  rw [rounds_succ]
  go_wp2
  go_ret
  exact ⟨rfl, rfl⟩

set_option maxRecDepth 100000 in
set_option maxHeartbeats 2000000 in
theorem findPivot_no (e b c q pc : Nat) (w : World) (he : VBlk w e #[.int .i64 7, .slice (some ⟨b, 0, none⟩) 1 1, .slice (some ⟨q, 0, none⟩) 1 pc, .int .i64 1] 75) (hb : VBlk w b #[.slice (some ⟨c, 0, none⟩) 2 2] 22) (hc : VBlk w c #[.int .i64 1, .int .i64 2] 3) :
    Calls Tryz.prog 96 #[.pointer (some ⟨e, 0, none⟩), .int .i64 1] w fun r w' => r = .returned (.bool false) ∧ w = w' := by
  have e0 := he.c 0
  have e1 := he.c 1
  have e2 := he.c 2
  have e3 := he.c 3
  have b0 := hb.c 0
  have c0 := hc.c 0
  have c1 := hc.c 1
  clear he hb hc
  go_enter Tryz.func96, Tryz.ntmps96
  go_wp2
  refine wp_loop_rounds 1 ?_
  rw [rounds_succ]
  go_wp2
  go_ret
  exact ⟨rfl, rfl⟩

set_option maxRecDepth 100000 in
set_option maxHeartbeats 2000000 in
theorem clearColumn_12 (e b c pc : Nat) (w : World) (he : VBlk w e #[.int .i64 7, .slice (some ⟨b, 0, none⟩) 1 1, .slice none 0 pc, .int .i64 1] 75) (hb : VBlk w b #[.slice (some ⟨c, 0, none⟩) 2 2] 22) (hc : VBlk w c #[.int .i64 1, .int .i64 2] 3) :
    Calls Tryz.prog 98 #[.pointer (some ⟨e, 0, none⟩), .int .i64 0] w fun r w' => (∃ u, r = .returned u) ∧ w = w' := by
  have e0 := he.c 0
  have e1 := he.c 1
  have e2 := he.c 2
  have e3 := he.c 3
  have b0 := hb.c 0
  have c0 := hc.c 0
  have c1 := hc.c 1
  clear he hb hc
  go_enter Tryz.func98, Tryz.ntmps98
  go_wp2
  refine wp_loop_rounds 2 ?_
  rw [rounds_succ]
  go_wp2
  rw [rounds_succ]
  go_wp2
  first | (refine bodyPost_ret (results_none rfl _ _ _) rfl ?_; exact ⟨⟨_, rfl⟩, rfl⟩) | exact ⟨rfl, _, results_none rfl _ _ _, ⟨_, rfl⟩, rfl⟩

set_option maxRecDepth 100000 in
set_option maxHeartbeats 2000000 in
theorem firstFree_12 (e b c q pc : Nat) (w : World) (he : VBlk w e #[.int .i64 7, .slice (some ⟨b, 0, none⟩) 1 1, .slice (some ⟨q, 0, none⟩) 1 pc, .int .i64 1] 75) (hb : VBlk w b #[.slice (some ⟨c, 0, none⟩) 2 2] 22) (hc : VBlk w c #[.int .i64 1, .int .i64 2] 3) (hq : w.cell? ⟨q, 0, none⟩ = some (.int .i64 0)) :
    Calls Tryz.prog 62 #[.pointer (some ⟨e, 0, none⟩)] w fun r w' => r = .returned (.int .i64 1) ∧ w = w' := by
  have e0 := he.c 0
  have e1 := he.c 1
  have e2 := he.c 2
  have e3 := he.c 3
  have b0 := hb.c 0
  have c0 := hc.c 0
  have c1 := hc.c 1
  clear he hb hc
  go_enter Tryz.func62, Tryz.ntmps62
  go_wp2
  refine wp_loop_rounds 2 ?_
  rw [rounds_succ]
  go_wp2
  rw [rounds_succ]
  go_wp2
  go_ret
  exact ⟨rfl, rfl⟩

theorem inv17 : invZ 1 7 = 1 := by decide +kernel

set_option maxRecDepth 100000 in
set_option maxHeartbeats 2000000 in
theorem scalePivot_12 (e b c pc : Nat) (w : World) (he : VBlk w e #[.int .i64 7, .slice (some ⟨b, 0, none⟩) 1 1, .slice none 0 pc, .int .i64 1] 75) (hb : VBlk w b #[.slice (some ⟨c, 0, none⟩) 2 2] 22) (hc : VBlk w c #[.int .i64 1, .int .i64 2] 3) (hbc : b ≠ c) (hec : e ≠ c) (heb : e ≠ b) :
    Calls Tryz.prog 97 #[.pointer (some ⟨e, 0, none⟩), .int .i64 0] w fun r w' => (∃ u, r = .returned u) ∧ VBlk w' e #[.int .i64 7, .slice (some ⟨b, 0, none⟩) 1 1, .slice none 0 pc, .int .i64 1] 75 ∧ VBlk w' b #[.slice (some ⟨c, 0, none⟩) 2 2] 22 ∧ VBlk w' c #[.int .i64 1, .int .i64 2] 3 ∧ (∀ B, B ≤ e → B ≤ c → Below B w w') ∧ (∀ (k : Nat) (vs : Array Value) (t : TypeId), k ≠ e → k ≠ c → VBlk w k vs t → VBlk w' k vs t) := by
  have e0 := he.c 0
  have e1 := he.c 1
  have e2 := he.c 2
  have e3 := he.c 3
  have b0 := hb.c 0
  have c0 := hc.c 0
  have c1 := hc.c 1
  have f3 := he.f 3
  have CV := Lib.hid (fun w => inverseZ 1 7 w (by omega) (by omega) (by omega) (by omega))
  rw [inv17] at CV
  go_enter Tryz.func97, Tryz.ntmps97
  go_upto_region 0 with fail
  first | go_region | fail "r0"
  go_upto_region 1 with fail
  first | go_region | fail "r1"
  have o1 := only_set1 w e 3 (.int .i64 1)
  have he2 : VBlk _ e #[.int .i64 7, .slice (some ⟨b, 0, none⟩) 1 1, .slice none 0 pc, .int .i64 1] 75 := he.set 3 (.int .i64 1)
  have hb2 := hb.only o1 (Ne.symm heb)
  have hc2 := hc.only o1 (Ne.symm hec)
  have HB := Lib.hid (fun B (h1 : B ≤ e) => o1.below h1)
  have HB := Lib.hid (fun B (h1 : B ≤ e) (_ : B ≤ c) => HB.out B h1)
  have HK := Lib.hid (fun (k : Nat) (vs : Array Value) (t : TypeId) (h1 : k ≠ e) (_ : k ≠ c) (h : VBlk w k vs t) => h.only o1 h1)
  clear e0 e1 e2 e3 b0 c0 c1 f3 o1 he hb hc
  generalize hVE : w.setCell ⟨e, 3, none⟩ (.int .i64 1) = V at *
  clear hVE
  have he := he2
  have hb := hb2
  have hc := hc2
  clear he2 hb2 hc2
  have e0 := he.c 0
  have c0 := hc.c 0
  have HS := Lib.hid (show ∀ wx, Only wx.heap.size V wx → wx.cell? ⟨e, 0, none⟩ = some (.int .i64 7) ∧ wx.cell? ⟨c, 0, none⟩ = some (.int .i64 1) from fun wx h => ⟨(World.cell?_of_block (w := V) (h.block e (by have := he.lt; have := h.size; omega))).trans e0, (World.cell?_of_block (w := V) (h.block c (by have := hc.lt; have := h.size; omega))).trans c0⟩)
  go_upto_region 2 with fail
  first | (go_region_held3 (fun wx => wx.cell? ⟨e, 0, none⟩ = some (.int .i64 7) ∧ wx.cell? ⟨c, 0, none⟩ = some (.int .i64 1))
    (first | exact HS.out _ (by repeat (first | exact Only.refl _ _ | refine only_drew ?_)))
    (first | (go_at_call 54; refine (CV.out _).mono ?_; rintro e w9 ⟨rfl, rfl⟩))) | fail "r2"
  clear HS
  clear e0 c0
  go_wp2
  refine wp_loop_rounds 3 ?_
  rw [rounds_succ]
  have e0 := he.c 0
  have c0 := hc.c 0
  have c1 := hc.c 1
  have f0 := hc.f 0
  have f1 := hc.f 1
  go_upto_region 6 with fail
  first | go_region | fail "r6"
  have o1 := only_set1 V c 0 (.int .i64 1)
  have he2 := he.only o1 hec
  have hb2 := hb.only o1 hbc
  have hc2 : VBlk _ c #[.int .i64 1, .int .i64 2] 3 := hc.set 0 (.int .i64 1)
  have HB2 := Lib.hid (fun B (h1 : B ≤ e) (h2 : B ≤ c) => Below.trans (HB.out B h1 h2) (o1.below h2))
  have HK2 := Lib.hid (fun (k : Nat) (vs : Array Value) (t : TypeId) (h1 : k ≠ e) (h2 : k ≠ c) (h : VBlk w k vs t) => (HK.out k vs t h1 h2 h).only o1 h2)
  clear e0 c0 c1 f0 f1 o1 he hb hc HB HK
  generalize hVE : V.setCell ⟨c, 0, none⟩ (.int .i64 1) = V2 at *
  clear hVE
  have he := he2
  have hb := hb2
  have hc := hc2
  have HB := HB2
  have HK := HK2
  clear he2 hb2 hc2 HB2 HK2
  go_wp2
  rw [rounds_succ]
  have e0 := he.c 0
  have c0 := hc.c 0
  have c1 := hc.c 1
  have f0 := hc.f 0
  have f1 := hc.f 1
  go_upto_region 6 with fail
  first | go_region | fail "r6"
  have o1 := only_set1 V2 c 1 (.int .i64 2)
  have he2 := he.only o1 hec
  have hb2 := hb.only o1 hbc
  have hc2 : VBlk _ c #[.int .i64 1, .int .i64 2] 3 := hc.set 1 (.int .i64 2)
  have HB2 := Lib.hid (fun B (h1 : B ≤ e) (h2 : B ≤ c) => Below.trans (HB.out B h1 h2) (o1.below h2))
  have HK2 := Lib.hid (fun (k : Nat) (vs : Array Value) (t : TypeId) (h1 : k ≠ e) (h2 : k ≠ c) (h : VBlk w k vs t) => (HK.out k vs t h1 h2 h).only o1 h2)
  clear e0 c0 c1 f0 f1 o1 he hb hc HB HK
  generalize hVE : V2.setCell ⟨c, 1, none⟩ (.int .i64 2) = V3 at *
  clear hVE
  have he := he2
  have hb := hb2
  have hc := hc2
  have HB := HB2
  have HK := HK2
  clear he2 hb2 hc2 HB2 HK2
  go_wp2
  rw [rounds_succ]
  go_wp2
  first | (refine bodyPost_ret (results_none rfl _ _ _) rfl ?_; exact ⟨⟨_, rfl⟩, he, hb, hc, fun B h1 h2 => (HB.out B h1 h2), HK.out⟩) | (refine ⟨rfl, _, results_none rfl _ _ _, ⟨_, rfl⟩, he, hb, hc, fun B h1 h2 => ?_, HK.out⟩; have := HB.out B h1 h2; exact ⟨this.os, this.tape, this.output, this.size, this.block⟩)
end Go.Proofs.YtlpclahlolhjfaaGreatDoor
