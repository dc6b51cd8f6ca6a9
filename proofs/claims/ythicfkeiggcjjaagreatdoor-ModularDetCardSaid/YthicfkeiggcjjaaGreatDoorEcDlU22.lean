import Derived.Test.YthicfkeiggcjjaaGreatDoorEcDlU18
import Derived.LoopN
import Derived.Test.YthicfkeiggcjjaaGreatDoorEcDlU7
import Derived.Deep.CutRange
import Derived.Deep.RegionWith
import Derived.Deep.RegionHeld3
import Derived.Test.YthicfkeiggcjjaaGreatDoorEcDlU17
import Derived.Test.YthicfkeiggcjjaaGreatDoorEcDlU21
import Derived.Test.YthicfkeiggcjjaaGreatDoorEcDlU15
namespace Go.Proofs.YthicfkeiggcjjaaGreatDoor
open Go Go.RowKit

/-- block g holds these values, in a block of the call's own -/
def VBlk (W : World) (g : Nat) (vs : Array Value) (t : TypeId) : Prop := W.heap[g]? = some (.cells vs t (0, 0))
theorem VBlk.c {W : World} {g : Nat} {vs : Array Value} {t : TypeId} (h : VBlk W g vs t) (i : Nat) : W.cell? ⟨g, i, none⟩ = vs[i]? := cell_of_row W g i _ _ _ h
theorem VBlk.f {W : World} {g : Nat} {vs : Array Value} {t : TypeId} (h : VBlk W g vs t) (o : Nat) : W.frozen? ⟨g, o, none⟩ = false := by
  unfold VBlk at h; simp [World.frozen?, h]
theorem VBlk.lt {W : World} {g : Nat} {vs : Array Value} {t : TypeId} (h : VBlk W g vs t) : g < W.heap.size := (Array.getElem?_eq_some_iff.1 h).1
theorem VBlk.below {w w' : World} {g : Nat} {vs : Array Value} {t : TypeId} (h : VBlk w g vs t) (hb : Below w.heap.size w w') : VBlk w' g vs t := by
  unfold VBlk; rw [hb.block g h.lt]; exact h
theorem VBlk.only {w w' : World} {g k : Nat} {vs : Array Value} {t : TypeId} (h : VBlk w g vs t) (ho : Only k w w') (hne : g ≠ k) : VBlk w' g vs t := by
  unfold VBlk; rw [ho.block g hne]; exact h
theorem VBlk.new (w : World) (vs : Array Value) (t : TypeId) : VBlk (w.alloc (.cells vs t)) w.heap.size vs t := heap_alloc_new w _
theorem VBlk.set {w : World} {g : Nat} {vs : Array Value} {t : TypeId} (h : VBlk w g vs t) (i : Nat) (v : Value) : VBlk (w.setCell ⟨g, i, none⟩ v) g (vs.setIfInBounds i v) t := by
  unfold VBlk at h ⊢
  simp [World.setCell, Array.getElem?_modify, h]
theorem only_drew {g : Nat} {w w' : World} (h : Only g w w') : Only g w w'.drew := ⟨h.os, h.tape, h.output, h.size, h.block⟩
theorem mr7 : mr 7 = true := by decide +kernel

set_option maxRecDepth 100000 in
set_option maxHeartbeats 2000000 in
theorem width_12 (a g : Nat) (w : World) (h0 : w.cell? ⟨a, 0, none⟩ = some (.slice (some ⟨g, 0, none⟩) 2 2)) :
    Calls Tryz.prog 34 #[.slice (some ⟨a, 0, none⟩) 1 1] w fun e w' => e = .returned (.int .i64 2) ∧ w = w' := by
  go_enter Tryz.func34, Tryz.ntmps34
  go_wp2
  go_ret
  exact ⟨rfl, rfl⟩

theorem make_row (w : World) : (Instr.makeSlice 22 (.int .i64 1) (.int .i64 1)).run Tryz.prog w = .ok (.slice (some ⟨w.heap.size, 0, none⟩) 1 1) (w.alloc (.cells #[.slice none 0 0] 23)) := by kernel_rfl
theorem make_two (w : World) : (Instr.makeSlice 23 (.int .i64 2) (.int .i64 2)).run Tryz.prog w = .ok (.slice (some ⟨w.heap.size, 0, none⟩) 2 2) (w.alloc (.cells #[.int .i64 0, .int .i64 0] 3)) := by kernel_rfl

set_option maxRecDepth 100000 in
set_option maxHeartbeats 4000000 in
theorem residues_12 (a g : Nat) (w : World) (h0 : w.cell? ⟨a, 0, none⟩ = some (.slice (some ⟨g, 0, none⟩) 2 2)) (h1 : w.cell? ⟨g, 0, none⟩ = some (.int .i64 1)) (h2 : w.cell? ⟨g, 1, none⟩ = some (.int .i64 2)) (hT : Table64 w) :
    Calls Tryz.prog 32 #[.slice (some ⟨a, 0, none⟩) 1 1, .int .i64 7] w fun e w' => ∃ b c, e = .returned (.tuple #[.slice (some ⟨b, 0, none⟩) 1 1, .int .i64 0]) ∧ VBlk w' b #[.slice (some ⟨c, 0, none⟩) 2 2] 23 ∧ VBlk w' c #[.int .i64 1, .int .i64 2] 3 ∧ w.heap.size ≤ b ∧ w.heap.size ≤ c ∧ b ≠ c ∧ Ext w w' := by
  have CI := Lib.hid (isPrime_any 7 w hT)
  rw [mr7] at CI
  have hm1 := make_row
  have hm2 := make_two
  have CR1 := Lib.hid (fun w => residue_any 1 7 w (by omega) (by omega))
  have CR2 := Lib.hid (fun w => residue_any 2 7 w (by omega) (by omega))
  clear hT
  go_enter Tryz.func32, Tryz.ntmps32
  go_wp2_with fail
  refine CI.out.mono ?_
  rintro e w1 ⟨rfl, rfl⟩
  go_wp2_with fail
  refine (width_12 a g _ h0).mono ?_
  rintro e w1 ⟨rfl, rfl⟩
  go_wp2
  refine wp_loop_rounds 2 ?_
  rw [rounds_succ]
  go_wp2
  rw [rounds_succ]
  go_wp2
  have hh0 := Lib.hid h0
  have hh1 := Lib.hid h1
  have HA := Lib.hid (show ∀ wx, Ext w wx → wx.cell? ⟨a, 0, none⟩ = some (.slice (some ⟨g, 0, none⟩) 2 2) ∧ wx.cell? ⟨g, 0, none⟩ = some (.int .i64 1) ∧ wx.cell? ⟨g, 1, none⟩ = some (.int .i64 2) from fun wx h =>
    ⟨(h.cell (lt_of_cell h0)).trans h0, (h.cell (lt_of_cell h1)).trans h1, (h.cell (lt_of_cell h2)).trans h2⟩)
  refine wp_loop_rounds 2 ?_
  rw [rounds_succ]
  go_upto_region 17 with fail
  obtain ⟨b, hb⟩ : ∃ b, w.heap.size = b := ⟨_, rfl⟩
  obtain ⟨c, hcx⟩ : ∃ c, w.heap.size + 1 = c := ⟨_, rfl⟩
  have hbc : b ≠ c := by omega
  have n1 := VBlk.new w #[.slice (some ⟨c, 0, none⟩) 2 2] 23
  have n2 : VBlk ((w.alloc (.cells #[.slice (some ⟨c, 0, none⟩) 2 2] 23)).alloc (.cells #[.int .i64 0, .int .i64 0] 3)) (w.heap.size + 1) #[.int .i64 0, .int .i64 0] 3 := by
    have := VBlk.new (w.alloc (.cells #[.slice (some ⟨c, 0, none⟩) 2 2] 23)) #[.int .i64 0, .int .i64 0] 3
    simpa using this
  have hb1 := n1.below ((Below.refl _ _).alloc (Nat.le_refl _) (.cells #[.int .i64 0, .int .i64 0] 3))
  have hc1 := n2
  have HX := Lib.hid (show Ext w ((w.alloc (.cells #[.slice (some ⟨c, 0, none⟩) 2 2] 23)).alloc (.cells #[.int .i64 0, .int .i64 0] 3)) from ((Below.refl _ w).alloc (Nat.le_refl _) _).alloc (by simp) _)
  rw [hcx] at hc1
  rw [hb] at hb1
  have HCB := Lib.hid (show w.heap.size ≤ c by omega)
  have HBB := Lib.hid (show w.heap.size ≤ b by omega)
  rw [hb] at hcx
  simp only [hb, hcx]
  clear n1 n2 CI hm1 hm2
  generalize hVE : ((w.alloc (.cells #[.slice (some ⟨c, 0, none⟩) 2 2] 23)).alloc (.cells #[.int .i64 0, .int .i64 0] 3)) = V at *
  clear hVE hcx
  have hb := hb1
  have hc := hc1
  clear hb1 hc1
  go_wp2
  refine wp_loop_rounds 3 ?_
  rw [rounds_succ]
  obtain ⟨⟨a0, g0, g1⟩, b0, c0, f0, f1⟩ := And.intro (HA.out _ HX.out) (And.intro (hb.c 0) (And.intro (hc.c 0) (And.intro (hc.f 0) (hc.f 1))))
  have HS := Lib.hid (show ∀ wx, Only c V wx → (wx.cell? ⟨a, 0, none⟩ = some (.slice (some ⟨g, 0, none⟩) 2 2) ∧ wx.cell? ⟨g, 0, none⟩ = some (.int .i64 1) ∧ wx.cell? ⟨g, 1, none⟩ = some (.int .i64 2)) ∧ wx.cell? ⟨b, 0, none⟩ = some (.slice (some ⟨c, 0, none⟩) 2 2) from fun wx h =>
    ⟨⟨(World.cell?_of_block (w := V) (h.block a (by have := lt_of_cell hh0.out; have := HCB.out; omega))).trans a0, (World.cell?_of_block (w := V) (h.block g (by have := lt_of_cell hh1.out; have := HCB.out; omega))).trans g0, (World.cell?_of_block (w := V) (h.block g (by have := lt_of_cell hh1.out; have := HCB.out; omega))).trans g1⟩, (World.cell?_of_block (w := V) (h.block b hbc)).trans b0⟩)
  go_upto_region 20 with fail
  first | (go_region_held3 (fun wx => (wx.cell? ⟨a, 0, none⟩ = some (.slice (some ⟨g, 0, none⟩) 2 2) ∧ wx.cell? ⟨g, 0, none⟩ = some (.int .i64 1) ∧ wx.cell? ⟨g, 1, none⟩ = some (.int .i64 2)) ∧ wx.cell? ⟨b, 0, none⟩ = some (.slice (some ⟨c, 0, none⟩) 2 2))
    (first | exact HS.out _ (by repeat (first | exact Only.refl _ _ | exact (Only.refl _ _).setCell _ _ | refine only_drew ?_)))
    (first | (go_at_call 38; refine (CR1.out _).mono ?_; rintro e w9 ⟨rfl, rfl⟩))) | fail "no walk"
  have o1 := only_set1 V c 0 (.int .i64 1)
  have hb2 := hb.only o1 hbc
  have hc2 : VBlk _ c #[.int .i64 1, .int .i64 0] 3 := hc.set 0 (.int .i64 1)
  have HX2 := Lib.hid (show Ext w _ from Below.trans HX.out (o1.below HCB.out))
  clear a0 g0 g1 b0 c0 f0 f1 HS o1 hb hc HX
  generalize hVE : V.setCell ⟨c, 0, none⟩ (.int .i64 1) = V2 at *
  clear hVE
  have hb := hb2
  have hc := hc2
  have HX := HX2
  clear hb2 hc2 HX2
  go_wp2
  rw [rounds_succ]
  obtain ⟨⟨a0, g0, g1⟩, b0, c0, f0, f1⟩ := And.intro (HA.out _ HX.out) (And.intro (hb.c 0) (And.intro (hc.c 1) (And.intro (hc.f 0) (hc.f 1))))
  have HS := Lib.hid (show ∀ wx, Only c V2 wx → (wx.cell? ⟨a, 0, none⟩ = some (.slice (some ⟨g, 0, none⟩) 2 2) ∧ wx.cell? ⟨g, 0, none⟩ = some (.int .i64 1) ∧ wx.cell? ⟨g, 1, none⟩ = some (.int .i64 2)) ∧ wx.cell? ⟨b, 0, none⟩ = some (.slice (some ⟨c, 0, none⟩) 2 2) from fun wx h =>
    ⟨⟨(World.cell?_of_block (w := V2) (h.block a (by have := lt_of_cell hh0.out; have := HCB.out; omega))).trans a0, (World.cell?_of_block (w := V2) (h.block g (by have := lt_of_cell hh1.out; have := HCB.out; omega))).trans g0, (World.cell?_of_block (w := V2) (h.block g (by have := lt_of_cell hh1.out; have := HCB.out; omega))).trans g1⟩, (World.cell?_of_block (w := V2) (h.block b hbc)).trans b0⟩)
  go_upto_region 20 with fail
  first | (go_region_held3 (fun wx => (wx.cell? ⟨a, 0, none⟩ = some (.slice (some ⟨g, 0, none⟩) 2 2) ∧ wx.cell? ⟨g, 0, none⟩ = some (.int .i64 1) ∧ wx.cell? ⟨g, 1, none⟩ = some (.int .i64 2)) ∧ wx.cell? ⟨b, 0, none⟩ = some (.slice (some ⟨c, 0, none⟩) 2 2))
    (first | exact HS.out _ (by repeat (first | exact Only.refl _ _ | exact (Only.refl _ _).setCell _ _ | refine only_drew ?_)))
    (first | (go_at_call 38; refine (CR2.out _).mono ?_; rintro e w9 ⟨rfl, rfl⟩))) | fail "no walk"
  have o1 := only_set1 V2 c 1 (.int .i64 2)
  have hb2 := hb.only o1 hbc
  have hc2 : VBlk _ c #[.int .i64 1, .int .i64 2] 3 := hc.set 1 (.int .i64 2)
  have HX2 := Lib.hid (show Ext w _ from Below.trans HX.out (o1.below HCB.out))
  clear a0 g0 g1 b0 c0 f0 f1 HS o1 hb hc HX
  generalize hVE : V2.setCell ⟨c, 1, none⟩ (.int .i64 2) = V3 at *
  clear hVE
  have hb := hb2
  have hc := hc2
  have HX := HX2
  clear hb2 hc2 HX2
  go_wp2
  rw [rounds_succ]
  go_wp2
  rw [rounds_succ]
  go_wp2
  go_ret2
  exact ⟨b, c, rfl, hb, hc, HBB.out, HCB.out, hbc, HX.out.drew.drew⟩
end Go.Proofs.YthicfkeiggcjjaaGreatDoor

namespace Go.Proofs.YthicfkeiggcjjaaGreatDoor
open Go Go.RowKit

/-- a prime modulus -/
def Good (q : Int) : Prop := mr q = true ∧ noDiv q.toNat 2
theorem noDiv_run {p K : Nat} (hK : p < K * K) (h : ∀ d, d < K → 2 ≤ d → p % d ≠ 0) : noDiv p 2 := fun d h1 h2 => by
  refine h d ?_ h1
  rcases Nat.lt_or_ge d K with h3 | h3
  · exact h3
  · exfalso
    have := Nat.mul_le_mul h3 h3
    omega
theorem good_2 : Good 2 := ⟨mr_run (p := 2) (by omega) (by omega) (by decide +kernel), noDiv_run (K := 2) (by decide) (by decide +kernel)⟩
theorem good_3 : Good 3 := ⟨mr_run (p := 3) (by omega) (by omega) (by decide +kernel), noDiv_run (K := 2) (by decide) (by decide +kernel)⟩
theorem good_5 : Good 5 := ⟨mr_run (p := 5) (by omega) (by omega) (by decide +kernel), noDiv_run (K := 3) (by decide) (by decide +kernel)⟩
theorem good_7 : Good 7 := ⟨mr_run (p := 7) (by omega) (by omega) (by decide +kernel), noDiv_run (K := 3) (by decide) (by decide +kernel)⟩
theorem good_11 : Good 11 := ⟨mr_run (p := 11) (by omega) (by omega) (by decide +kernel), noDiv_run (K := 4) (by decide) (by decide +kernel)⟩
theorem good_13 : Good 13 := ⟨mr_run (p := 13) (by omega) (by omega) (by decide +kernel), noDiv_run (K := 4) (by decide) (by decide +kernel)⟩
theorem good_101 : Good 101 := ⟨mr_run (p := 101) (by omega) (by omega) (by decide +kernel), noDiv_run (K := 11) (by decide) (by decide +kernel)⟩
theorem good_65537 : Good 65537 := ⟨mr_run (p := 65537) (by omega) (by omega) (by decide +kernel), noDiv_run (K := 257) (by decide) (by decide +kernel)⟩
theorem good_1000003 : Good 1000003 := ⟨mr_run (p := 1000003) (by omega) (by omega) (by decide +kernel), noDiv_run (K := 1001) (by decide) (by decide +kernel)⟩
theorem good_2147483647 : Good 2147483647 := ⟨mr_run (p := 2147483647) (by omega) (by omega) (by decide +kernel), (isP_iff.1 ((mr_isP (p := 2147483647) (by omega)).symm.trans (mr_run (p := 2147483647) (by omega) (by omega) (by decide +kernel)))).2.2⟩

set_option maxRecDepth 100000 in
set_option maxHeartbeats 8000000 in
theorem prime_any (p : Int) (w : World) : Calls Tryz.prog 22 #[.int .i64 p] w fun e w' => ∃ q, e = .returned (.int .i64 q) ∧ Good q ∧ Ext w w' := by
  obtain ⟨vs, hvs⟩ : ∃ vs : Array Value, vs = #[.int .i64 2, .int .i64 3, .int .i64 5, .int .i64 7, .int .i64 11, .int .i64 13, .int .i64 101, .int .i64 65537, .int .i64 1000003, .int .i64 2147483647] := ⟨_, rfl⟩
  have hE : Ext w (w.alloc (.cells vs 3)) := (Below.refl _ _).alloc (Nat.le_refl _) _
  have hv : VBlk (w.alloc (.cells vs 3)) w.heap.size vs 3 := VBlk.new w vs 3
  subst hvs
  have HE := Lib.hid hE
  obtain ⟨g, hg⟩ : ∃ g, w.heap.size = g := ⟨_, rfl⟩
  rw [hg] at hv
  have hc := fun j => hv.c j
  clear hE hv
  go_enter Tryz.func22, Tryz.ntmps22
  go_wp2_with fail
  refine (place_any p 10 _ (by omega) (by omega)).mono ?_
  rintro e w2 ⟨j, hj, rfl, rfl⟩
  have hcj := hc j
  clear hc hg
  generalize w.alloc (.cells #[.int .i64 2, .int .i64 3, .int .i64 5, .int .i64 7, .int .i64 11, .int .i64 13, .int .i64 101, .int .i64 65537, .int .i64 1000003, .int .i64 2147483647] 3) = V at *
  have hj2 : j = 0 ∨ j = 1 ∨ j = 2 ∨ j = 3 ∨ j = 4 ∨ j = 5 ∨ j = 6 ∨ j = 7 ∨ j = 8 ∨ j = 9 := by omega
  clear hj
  rcases hj2 with rfl | rfl | rfl | rfl | rfl | rfl | rfl | rfl | rfl | rfl
  · go_wp2
    go_ret
    exact ⟨2, rfl, good_2, HE.out⟩
  · go_wp2
    go_ret
    exact ⟨3, rfl, good_3, HE.out⟩
  · go_wp2
    go_ret
    exact ⟨5, rfl, good_5, HE.out⟩
  · go_wp2
    go_ret
    exact ⟨7, rfl, good_7, HE.out⟩
  · go_wp2
    go_ret
    exact ⟨11, rfl, good_11, HE.out⟩
  · go_wp2
    go_ret
    exact ⟨13, rfl, good_13, HE.out⟩
  · go_wp2
    go_ret
    exact ⟨101, rfl, good_101, HE.out⟩
  · go_wp2
    go_ret
    exact ⟨65537, rfl, good_65537, HE.out⟩
  · go_wp2
    go_ret
    exact ⟨1000003, rfl, good_1000003, HE.out⟩
  · go_wp2
    go_ret
    exact ⟨2147483647, rfl, good_2147483647, HE.out⟩
end Go.Proofs.YthicfkeiggcjjaaGreatDoor
