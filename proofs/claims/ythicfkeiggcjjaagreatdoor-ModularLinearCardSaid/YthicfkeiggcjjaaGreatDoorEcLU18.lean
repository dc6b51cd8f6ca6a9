import Derived.Test.YthicfkeiggcjjaaGreatDoorEcLU17
import Derived.LoopN
import Derived.Test.YthicfkeiggcjjaaGreatDoorEcLU7
import Derived.Deep.CutRange
import Derived.Deep.RegionWith
import Derived.Deep.RegionHeld3
namespace Go.Proofs.YthicfkeiggcjjaaGreatDoor
open Go.RowKit

set_option maxRecDepth 100000 in
set_option maxHeartbeats 4000000 in
theorem isPrime_any (p : Int) (w : World) (hT : Table64 w) :
    Calls Tryz.prog 31 #[.int .i64 p] w fun e w' => e = .returned (.bool (mr p)) ∧ w = w' := by
  by_cases h1 : p < 2
  · have hr : mr p = false := by unfold mr; rw [decide_eq_false (show ¬ (2 ≤ p ∧ p ≤ 2147483647) by omega)]; rfl
    rw [hr]
    clear hT hr
    go_enter Tryz.func31, Tryz.ntmps31
    go_wp2
    go_ret
    exact ⟨rfl, rfl⟩
  by_cases h2 : 2147483647 < p
  · have hr : mr p = false := by unfold mr; rw [decide_eq_false (show ¬ (2 ≤ p ∧ p ≤ 2147483647) by omega)]; rfl
    rw [hr]
    clear hT hr
    go_enter Tryz.func31, Tryz.ntmps31
    go_wp2
    go_ret
    exact ⟨rfl, rfl⟩
  obtain ⟨n, rfl⟩ := Int.eq_ofNat_of_zero_le (show 0 ≤ p by omega)
  obtain ⟨R, hR⟩ : ∃ R, mrB n [2, 3, 5, 7] = R := ⟨_, rfl⟩
  have hr : mr (n : Int) = R := by unfold mr; rw [decide_eq_true (show 2 ≤ (n : Int) ∧ (n : Int) ≤ 2147483647 by omega), Bool.true_and]; exact hR
  rw [hr]
  have CP := Lib.hid (fun (b : Nat) (hb : b ≤ 7) => passes_any n b w hb (by omega) (by omega) hT)
  have HR := Lib.hid hR
  clear hr hT hR
  go_enter Tryz.func31, Tryz.ntmps31
  go_wp2
  go_loopw [12] (fun iv wr => ∃ z : Int, iv = .int .i64 z ∧ ((z = 0 ∧ Hid (mrB n [2, 3, 5, 7] = R)) ∨ (z = 1 ∧ Hid (mrB n [3, 5, 7] = R)) ∨ (z = 2 ∧ Hid (mrB n [5, 7] = R)) ∨ (z = 3 ∧ Hid (mrB n [7] = R)) ∨ (z = 4 ∧ Hid (mrB n [] = R))) ∧ w = wr)
    (fun iv _ => 4 - (intOf iv).toNat)
  case atStart => exact ⟨0, rfl, Or.inl ⟨rfl, HR⟩, rfl⟩
  case round =>
    obtain ⟨z, rfl, hz, rfl⟩ := hrel
    clear HR
    rcases hz with ⟨rfl, HI⟩ | ⟨rfl, HI⟩ | ⟨rfl, HI⟩ | ⟨rfl, HI⟩ | ⟨rfl, HI⟩
    · have hb : mrB n [2, 3, 5, 7] = R := HI.out
      by_cases hd : n % 2 = 0
      · have hr : R = Nat.beq n 2 := by rw [← hb]; show cond (Nat.beq (n % 2) 0) _ _ = _; rw [hd]; rfl
        have hdi : (n : Int) % 2 = 0 := by omega
        clear hb HI hd CP
        have hix : ∀ w, (Instr.index 89 (.agg #[.int .i64 2, .int .i64 3, .int .i64 5, .int .i64 7]) (.int .i64 0)).run Tryz.prog w = .ok (.int .i64 2) w := fun _ => by kernel_rfl
        have hr2 : R = ((n : Int) == 2) := by
          rw [hr]
          by_cases he : n = 2
          · rw [he]; rfl
          · rw [beq_false he]
            exact (beq_eq_false_iff_ne.2 (show (n : Int) ≠ 2 by omega)).symm
        clear hr
        go_wp2
        go_ret
        exact ⟨by rw [hr2]; rfl, rfl⟩
      · have hr : R = cond (passB n 2) (mrB n [3, 5, 7]) false := by rw [← hb]; show cond (Nat.beq (n % 2) 0) _ _ = _; rw [beq_false hd]; rfl
        have hdi : (n : Int) % 2 ≠ 0 := by omega
        clear hb HI hd
        have hix : ∀ w, (Instr.index 89 (.agg #[.int .i64 2, .int .i64 3, .int .i64 5, .int .i64 7]) (.int .i64 0)).run Tryz.prog w = .ok (.int .i64 2) w := fun _ => by kernel_rfl
        go_wp2_with fail
        refine (CP.out 2 (by decide)).mono ?_
        rintro e w1 ⟨rfl, rfl⟩
        clear CP
        cases hpb : passB n 2 with
        | false =>
          have hr2 : R = false := by rw [hr, hpb]; rfl
          clear hr hpb
          subst hr2
          go_wp2
          go_ret
          exact ⟨rfl, rfl⟩
        | true =>
          have HR := Lib.hid (show mrB n [3, 5, 7] = R by rw [hr, hpb]; rfl)
          clear hr hpb
          go_wp2
          go_roundw
          case rel => exact ⟨1, rfl, Or.inr (Or.inl ⟨rfl, HR⟩), trivial⟩
          case measure => first | decide | (simp only [intOf]; omega)
    · have hb : mrB n [3, 5, 7] = R := HI.out
      by_cases hd : n % 3 = 0
      · have hr : R = Nat.beq n 3 := by rw [← hb]; show cond (Nat.beq (n % 3) 0) _ _ = _; rw [hd]; rfl
        have hdi : (n : Int) % 3 = 0 := by omega
        clear hb HI hd CP
        have hix : ∀ w, (Instr.index 89 (.agg #[.int .i64 2, .int .i64 3, .int .i64 5, .int .i64 7]) (.int .i64 1)).run Tryz.prog w = .ok (.int .i64 3) w := fun _ => by kernel_rfl
        have hr2 : R = ((n : Int) == 3) := by
          rw [hr]
          by_cases he : n = 3
          · rw [he]; rfl
          · rw [beq_false he]
            exact (beq_eq_false_iff_ne.2 (show (n : Int) ≠ 3 by omega)).symm
        clear hr
        go_wp2
        go_ret
        exact ⟨by rw [hr2]; rfl, rfl⟩
      · have hr : R = cond (passB n 3) (mrB n [5, 7]) false := by rw [← hb]; show cond (Nat.beq (n % 3) 0) _ _ = _; rw [beq_false hd]; rfl
        have hdi : (n : Int) % 3 ≠ 0 := by omega
        clear hb HI hd
        have hix : ∀ w, (Instr.index 89 (.agg #[.int .i64 2, .int .i64 3, .int .i64 5, .int .i64 7]) (.int .i64 1)).run Tryz.prog w = .ok (.int .i64 3) w := fun _ => by kernel_rfl
        go_wp2_with fail
        refine (CP.out 3 (by decide)).mono ?_
        rintro e w1 ⟨rfl, rfl⟩
        clear CP
        cases hpb : passB n 3 with
        | false =>
          have hr2 : R = false := by rw [hr, hpb]; rfl
          clear hr hpb
          subst hr2
          go_wp2
          go_ret
          exact ⟨rfl, rfl⟩
        | true =>
          have HR := Lib.hid (show mrB n [5, 7] = R by rw [hr, hpb]; rfl)
          clear hr hpb
          go_wp2
          go_roundw
          case rel => exact ⟨2, rfl, Or.inr (Or.inr (Or.inl ⟨rfl, HR⟩)), trivial⟩
          case measure => first | decide | (simp only [intOf]; omega)
    · have hb : mrB n [5, 7] = R := HI.out
      by_cases hd : n % 5 = 0
      · have hr : R = Nat.beq n 5 := by rw [← hb]; show cond (Nat.beq (n % 5) 0) _ _ = _; rw [hd]; rfl
        have hdi : (n : Int) % 5 = 0 := by omega
        clear hb HI hd CP
        have hix : ∀ w, (Instr.index 89 (.agg #[.int .i64 2, .int .i64 3, .int .i64 5, .int .i64 7]) (.int .i64 2)).run Tryz.prog w = .ok (.int .i64 5) w := fun _ => by kernel_rfl
        have hr2 : R = ((n : Int) == 5) := by
          rw [hr]
          by_cases he : n = 5
          · rw [he]; rfl
          · rw [beq_false he]
            exact (beq_eq_false_iff_ne.2 (show (n : Int) ≠ 5 by omega)).symm
        clear hr
        go_wp2
        go_ret
        exact ⟨by rw [hr2]; rfl, rfl⟩
      · have hr : R = cond (passB n 5) (mrB n [7]) false := by rw [← hb]; show cond (Nat.beq (n % 5) 0) _ _ = _; rw [beq_false hd]; rfl
        have hdi : (n : Int) % 5 ≠ 0 := by omega
        clear hb HI hd
        have hix : ∀ w, (Instr.index 89 (.agg #[.int .i64 2, .int .i64 3, .int .i64 5, .int .i64 7]) (.int .i64 2)).run Tryz.prog w = .ok (.int .i64 5) w := fun _ => by kernel_rfl
        go_wp2_with fail
        refine (CP.out 5 (by decide)).mono ?_
        rintro e w1 ⟨rfl, rfl⟩
        clear CP
        cases hpb : passB n 5 with
        | false =>
          have hr2 : R = false := by rw [hr, hpb]; rfl
          clear hr hpb
          subst hr2
          go_wp2
          go_ret
          exact ⟨rfl, rfl⟩
        | true =>
          have HR := Lib.hid (show mrB n [7] = R by rw [hr, hpb]; rfl)
          clear hr hpb
          go_wp2
          go_roundw
          case rel => exact ⟨3, rfl, Or.inr (Or.inr (Or.inr (Or.inl ⟨rfl, HR⟩))), trivial⟩
          case measure => first | decide | (simp only [intOf]; omega)
    · have hb : mrB n [7] = R := HI.out
      by_cases hd : n % 7 = 0
      · have hr : R = Nat.beq n 7 := by rw [← hb]; show cond (Nat.beq (n % 7) 0) _ _ = _; rw [hd]; rfl
        have hdi : (n : Int) % 7 = 0 := by omega
        clear hb HI hd CP
        have hix : ∀ w, (Instr.index 89 (.agg #[.int .i64 2, .int .i64 3, .int .i64 5, .int .i64 7]) (.int .i64 3)).run Tryz.prog w = .ok (.int .i64 7) w := fun _ => by kernel_rfl
        have hr2 : R = ((n : Int) == 7) := by
          rw [hr]
          by_cases he : n = 7
          · rw [he]; rfl
          · rw [beq_false he]
            exact (beq_eq_false_iff_ne.2 (show (n : Int) ≠ 7 by omega)).symm
        clear hr
        go_wp2
        go_ret
        exact ⟨by rw [hr2]; rfl, rfl⟩
      · have hr : R = cond (passB n 7) (mrB n []) false := by rw [← hb]; show cond (Nat.beq (n % 7) 0) _ _ = _; rw [beq_false hd]; rfl
        have hdi : (n : Int) % 7 ≠ 0 := by omega
        clear hb HI hd
        have hix : ∀ w, (Instr.index 89 (.agg #[.int .i64 2, .int .i64 3, .int .i64 5, .int .i64 7]) (.int .i64 3)).run Tryz.prog w = .ok (.int .i64 7) w := fun _ => by kernel_rfl
        go_wp2_with fail
        refine (CP.out 7 (by decide)).mono ?_
        rintro e w1 ⟨rfl, rfl⟩
        clear CP
        cases hpb : passB n 7 with
        | false =>
          have hr2 : R = false := by rw [hr, hpb]; rfl
          clear hr hpb
          subst hr2
          go_wp2
          go_ret
          exact ⟨rfl, rfl⟩
        | true =>
          have HR := Lib.hid (show mrB n [] = R by rw [hr, hpb]; rfl)
          clear hr hpb
          go_wp2
          go_roundw
          case rel => exact ⟨4, rfl, Or.inr (Or.inr (Or.inr (Or.inr (⟨rfl, HR⟩)))), trivial⟩
          case measure => first | decide | (simp only [intOf]; omega)
    · have hb : R = true := HI.out.symm
      subst hb
      clear HI CP
      go_wp2
      go_ret
      exact ⟨rfl, rfl⟩
end Go.Proofs.YthicfkeiggcjjaaGreatDoor

namespace Go.Proofs.YthicfkeiggcjjaaGreatDoor
open Go Go.RowKit

/-- block g holds these values, in a block of the call's own -/
def VBlk (W : World) (g : Nat) (vs : Array Value) (t : TypeId) : Prop := W.heap[g]? = some (.cells vs t (0, 0))
theorem VBlk.c {W : World} {g : Nat} {vs : Array Value} {t : TypeId} (h : VBlk W g vs t) (i : Nat) : W.cell? ⟨g, i, none⟩ = vs[i]? := cell_of_row W g i _ _ _ h
theorem VBlk.f {W : World} {g : Nat} {vs : Array Value} {t : TypeId} (h : VBlk W g vs t) (o : Nat) : W.frozen? ⟨g, o, none⟩ = false := by
  unfold VBlk at h; simp [World.frozen?, h]
theorem VBlk.lt {W : World} {g : Nat} {vs : Array Value} {t : TypeId} (h : VBlk W g vs t) : g < W.heap.size := (Array.getElem?_eq_some_iff.1 h).1
theorem VBlk.below {w w' : World} {g : Nat} {vs : Array Value} {t : TypeId} (h : VBlk w g vs t) (hb : Below w.heap.size w w') : VBlk w' g vs t := by
  unfold VBlk; rw [hb.block g h.lt]; exact h
theorem VBlk.only {w w' : World} {g k : Nat} {vs : Array Value} {t : TypeId} (h : VBlk w g vs t) (ho : Only k w w') (hne : g ≠ k) : VBlk w' g vs t := by
  unfold VBlk; rw [ho.block g hne]; exact h
theorem VBlk.new (w : World) (vs : Array Value) (t : TypeId) : VBlk (w.alloc (.cells vs t)) w.heap.size vs t := heap_alloc_new w _
theorem VBlk.set {w : World} {g : Nat} {vs : Array Value} {t : TypeId} (h : VBlk w g vs t) (i : Nat) (v : Value) : VBlk (w.setCell ⟨g, i, none⟩ v) g (vs.setIfInBounds i v) t := by
  unfold VBlk at h ⊢
  simp [World.setCell, Array.getElem?_modify, h]
theorem only_drew {g : Nat} {w w' : World} (h : Only g w w') : Only g w w'.drew := ⟨h.os, h.tape, h.output, h.size, h.block⟩
theorem mr7 : mr 7 = true := by decide +kernel

set_option maxRecDepth 100000 in
set_option maxHeartbeats 2000000 in
theorem width_12 (a g : Nat) (w : World) (h0 : w.cell? ⟨a, 0, none⟩ = some (.slice (some ⟨g, 0, none⟩) 2 2)) :
    Calls Tryz.prog 34 #[.slice (some ⟨a, 0, none⟩) 1 1] w fun e w' => e = .returned (.int .i64 2) ∧ w = w' := by
  go_enter Tryz.func34, Tryz.ntmps34
  go_wp2
  go_ret
  exact ⟨rfl, rfl⟩

theorem make_row (w : World) : (Instr.makeSlice 22 (.int .i64 1) (.int .i64 1)).run Tryz.prog w = .ok (.slice (some ⟨w.heap.size, 0, none⟩) 1 1) (w.alloc (.cells #[.slice none 0 0] 23)) := by kernel_rfl
theorem make_two (w : World) : (Instr.makeSlice 23 (.int .i64 2) (.int .i64 2)).run Tryz.prog w = .ok (.slice (some ⟨w.heap.size, 0, none⟩) 2 2) (w.alloc (.cells #[.int .i64 0, .int .i64 0] 3)) := by kernel_rfl

set_option maxRecDepth 100000 in
set_option maxHeartbeats 4000000 in
theorem residues_12 (a g : Nat) (w : World) (h0 : w.cell? ⟨a, 0, none⟩ = some (.slice (some ⟨g, 0, none⟩) 2 2)) (h1 : w.cell? ⟨g, 0, none⟩ = some (.int .i64 1)) (h2 : w.cell? ⟨g, 1, none⟩ = some (.int .i64 2)) (hT : Table64 w) :
    Calls Tryz.prog 32 #[.slice (some ⟨a, 0, none⟩) 1 1, .int .i64 7] w fun e w' => ∃ b c, e = .returned (.tuple #[.slice (some ⟨b, 0, none⟩) 1 1, .int .i64 0]) ∧ VBlk w' b #[.slice (some ⟨c, 0, none⟩) 2 2] 23 ∧ VBlk w' c #[.int .i64 1, .int .i64 2] 3 ∧ w.heap.size ≤ b ∧ w.heap.size ≤ c ∧ b ≠ c ∧ Ext w w' := by
  have CI := Lib.hid (isPrime_any 7 w hT)
  rw [mr7] at CI
  have hm1 := make_row
  have hm2 := make_two
  have CR1 := Lib.hid (fun w => residue_any 1 7 w (by omega) (by omega))
  have CR2 := Lib.hid (fun w => residue_any 2 7 w (by omega) (by omega))
  clear hT
  go_enter Tryz.func32, Tryz.ntmps32
  go_wp2_with fail
  refine CI.out.mono ?_
  rintro e w1 ⟨rfl, rfl⟩
  go_wp2_with fail
  refine (width_12 a g _ h0).mono ?_
  rintro e w1 ⟨rfl, rfl⟩
  go_wp2
  refine wp_loop_rounds 2 ?_
  rw [rounds_succ]
  go_wp2
  rw [rounds_succ]
  go_wp2
  have hh0 := Lib.hid h0
  have hh1 := Lib.hid h1
  have HA := Lib.hid (show ∀ wx, Ext w wx → wx.cell? ⟨a, 0, none⟩ = some (.slice (some ⟨g, 0, none⟩) 2 2) ∧ wx.cell? ⟨g, 0, none⟩ = some (.int .i64 1) ∧ wx.cell? ⟨g, 1, none⟩ = some (.int .i64 2) from fun wx h =>
    ⟨(h.cell (lt_of_cell h0)).trans h0, (h.cell (lt_of_cell h1)).trans h1, (h.cell (lt_of_cell h2)).trans h2⟩)
  refine wp_loop_rounds 2 ?_
  rw [rounds_succ]
  go_upto_region 17 with fail
  obtain ⟨b, hb⟩ : ∃ b, w.heap.size = b := ⟨_, rfl⟩
  obtain ⟨c, hcx⟩ : ∃ c, w.heap.size + 1 = c := ⟨_, rfl⟩
  have hbc : b ≠ c := by omega
  have n1 := VBlk.new w #[.slice (some ⟨c, 0, none⟩) 2 2] 23
  have n2 : VBlk ((w.alloc (.cells #[.slice (some ⟨c, 0, none⟩) 2 2] 23)).alloc (.cells #[.int .i64 0, .int .i64 0] 3)) (w.heap.size + 1) #[.int .i64 0, .int .i64 0] 3 := by
    have := VBlk.new (w.alloc (.cells #[.slice (some ⟨c, 0, none⟩) 2 2] 23)) #[.int .i64 0, .int .i64 0] 3
    simpa using this
  have hb1 := n1.below ((Below.refl _ _).alloc (Nat.le_refl _) (.cells #[.int .i64 0, .int .i64 0] 3))
  have hc1 := n2
  have HX := Lib.hid (show Ext w ((w.alloc (.cells #[.slice (some ⟨c, 0, none⟩) 2 2] 23)).alloc (.cells #[.int .i64 0, .int .i64 0] 3)) from ((Below.refl _ w).alloc (Nat.le_refl _) _).alloc (by simp) _)
  rw [hcx] at hc1
  rw [hb] at hb1
  have HCB := Lib.hid (show w.heap.size ≤ c by omega)
  have HBB := Lib.hid (show w.heap.size ≤ b by omega)
  rw [hb] at hcx
  simp only [hb, hcx]
  clear n1 n2 CI hm1 hm2
  generalize hVE : ((w.alloc (.cells #[.slice (some ⟨c, 0, none⟩) 2 2] 23)).alloc (.cells #[.int .i64 0, .int .i64 0] 3)) = V at *
  clear hVE hcx
  have hb := hb1
  have hc := hc1
  clear hb1 hc1
  go_wp2
  refine wp_loop_rounds 3 ?_
  rw [rounds_succ]
  obtain ⟨⟨a0, g0, g1⟩, b0, c0, f0, f1⟩ := And.intro (HA.out _ HX.out) (And.intro (hb.c 0) (And.intro (hc.c 0) (And.intro (hc.f 0) (hc.f 1))))
  have HS := Lib.hid (show ∀ wx, Only c V wx → (wx.cell? ⟨a, 0, none⟩ = some (.slice (some ⟨g, 0, none⟩) 2 2) ∧ wx.cell? ⟨g, 0, none⟩ = some (.int .i64 1) ∧ wx.cell? ⟨g, 1, none⟩ = some (.int .i64 2)) ∧ wx.cell? ⟨b, 0, none⟩ = some (.slice (some ⟨c, 0, none⟩) 2 2) from fun wx h =>
    ⟨⟨(World.cell?_of_block (w := V) (h.block a (by have := lt_of_cell hh0.out; have := HCB.out; omega))).trans a0, (World.cell?_of_block (w := V) (h.block g (by have := lt_of_cell hh1.out; have := HCB.out; omega))).trans g0, (World.cell?_of_block (w := V) (h.block g (by have := lt_of_cell hh1.out; have := HCB.out; omega))).trans g1⟩, (World.cell?_of_block (w := V) (h.block b hbc)).trans b0⟩)
  go_upto_region 20 with fail
  first | (go_region_held3 (fun wx => (wx.cell? ⟨a, 0, none⟩ = some (.slice (some ⟨g, 0, none⟩) 2 2) ∧ wx.cell? ⟨g, 0, none⟩ = some (.int .i64 1) ∧ wx.cell? ⟨g, 1, none⟩ = some (.int .i64 2)) ∧ wx.cell? ⟨b, 0, none⟩ = some (.slice (some ⟨c, 0, none⟩) 2 2))
    (first | exact HS.out _ (by repeat (first | exact Only.refl _ _ | exact (Only.refl _ _).setCell _ _ | refine only_drew ?_)))
    (first | (go_at_call 38; refine (CR1.out _).mono ?_; rintro e w9 ⟨rfl, rfl⟩))) | fail "no walk"
  have o1 := only_set1 V c 0 (.int .i64 1)
  have hb2 := hb.only o1 hbc
  have hc2 : VBlk _ c #[.int .i64 1, .int .i64 0] 3 := hc.set 0 (.int .i64 1)
  have HX2 := Lib.hid (show Ext w _ from Below.trans HX.out (o1.below HCB.out))
  clear a0 g0 g1 b0 c0 f0 f1 HS o1 hb hc HX
  generalize hVE : V.setCell ⟨c, 0, none⟩ (.int .i64 1) = V2 at *
  clear hVE
  have hb := hb2
  have hc := hc2
  have HX := HX2
  clear hb2 hc2 HX2
  go_wp2
  rw [rounds_succ]
  obtain ⟨⟨a0, g0, g1⟩, b0, c0, f0, f1⟩ := And.intro (HA.out _ HX.out) (And.intro (hb.c 0) (And.intro (hc.c 1) (And.intro (hc.f 0) (hc.f 1))))
  have HS := Lib.hid (show ∀ wx, Only c V2 wx → (wx.cell? ⟨a, 0, none⟩ = some (.slice (some ⟨g, 0, none⟩) 2 2) ∧ wx.cell? ⟨g, 0, none⟩ = some (.int .i64 1) ∧ wx.cell? ⟨g, 1, none⟩ = some (.int .i64 2)) ∧ wx.cell? ⟨b, 0, none⟩ = some (.slice (some ⟨c, 0, none⟩) 2 2) from fun wx h =>
    ⟨⟨(World.cell?_of_block (w := V2) (h.block a (by have := lt_of_cell hh0.out; have := HCB.out; omega))).trans a0, (World.cell?_of_block (w := V2) (h.block g (by have := lt_of_cell hh1.out; have := HCB.out; omega))).trans g0, (World.cell?_of_block (w := V2) (h.block g (by have := lt_of_cell hh1.out; have := HCB.out; omega))).trans g1⟩, (World.cell?_of_block (w := V2) (h.block b hbc)).trans b0⟩)
  go_upto_region 20 with fail
  first | (go_region_held3 (fun wx => (wx.cell? ⟨a, 0, none⟩ = some (.slice (some ⟨g, 0, none⟩) 2 2) ∧ wx.cell? ⟨g, 0, none⟩ = some (.int .i64 1) ∧ wx.cell? ⟨g, 1, none⟩ = some (.int .i64 2)) ∧ wx.cell? ⟨b, 0, none⟩ = some (.slice (some ⟨c, 0, none⟩) 2 2))
    (first | exact HS.out _ (by repeat (first | exact Only.refl _ _ | exact (Only.refl _ _).setCell _ _ | refine only_drew ?_)))
    (first | (go_at_call 38; refine (CR2.out _).mono ?_; rintro e w9 ⟨rfl, rfl⟩))) | fail "no walk"
  have o1 := only_set1 V2 c 1 (.int .i64 2)
  have hb2 := hb.only o1 hbc
  have hc2 : VBlk _ c #[.int .i64 1, .int .i64 2] 3 := hc.set 1 (.int .i64 2)
  have HX2 := Lib.hid (show Ext w _ from Below.trans HX.out (o1.below HCB.out))
  clear a0 g0 g1 b0 c0 f0 f1 HS o1 hb hc HX
  generalize hVE : V2.setCell ⟨c, 1, none⟩ (.int .i64 2) = V3 at *
  clear hVE
  have hb := hb2
  have hc := hc2
  have HX := HX2
  clear hb2 hc2 HX2
  go_wp2
  rw [rounds_succ]
  go_wp2
  rw [rounds_succ]
  go_wp2
  go_ret2
  exact ⟨b, c, rfl, hb, hc, HBB.out, HCB.out, hbc, HX.out.drew.drew⟩
end Go.Proofs.YthicfkeiggcjjaaGreatDoor
