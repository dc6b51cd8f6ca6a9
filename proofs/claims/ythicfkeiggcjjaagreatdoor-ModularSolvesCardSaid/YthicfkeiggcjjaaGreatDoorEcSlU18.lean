import Derived.Test.YthicfkeiggcjjaaGreatDoorEcSlU17
import Derived.Test.YthicfkeiggcjjaaGreatDoorEcSlU15
import Derived.Test.YthicfkeiggcjjaaGreatDoorEcSlU7
import Derived.Deep.RegionHeld3
import Derived.Test.YthicfkeiggcjjaaGreatDoorEcSlU3
import Derived.Laws.AppendOwn
import Derived.OwnWalk
import Derived.Deep.RegionLaw
import Derived.Deep.CutRange
namespace Go.Proofs.YthicfkeiggcjjaaGreatDoor
open Go.RowKit

set_option maxRecDepth 100000 in
set_option maxHeartbeats 4000000 in
theorem isPrime_any (p : Int) (w : World) (hT : Table64 w) :
    Calls Tryz.prog 31 #[.int .i64 p] w fun e w' => e = .returned (.bool (mr p)) ∧ w = w' := by
  by_cases h1 : p < 2
  · have hr : mr p = false := by unfold mr; rw [decide_eq_false (show ¬ (2 ≤ p ∧ p ≤ 2147483647) by omega)]; rfl
    rw [hr]
    clear hT hr
    go_enter Tryz.func31, Tryz.ntmps31
    go_wp2
    go_ret
    exact ⟨rfl, rfl⟩
  by_cases h2 : 2147483647 < p
  · have hr : mr p = false := by unfold mr; rw [decide_eq_false (show ¬ (2 ≤ p ∧ p ≤ 2147483647) by omega)]; rfl
    rw [hr]
    clear hT hr
    go_enter Tryz.func31, Tryz.ntmps31
    go_wp2
    go_ret
    exact ⟨rfl, rfl⟩
  obtain ⟨n, rfl⟩ := Int.eq_ofNat_of_zero_le (show 0 ≤ p by omega)
  obtain ⟨R, hR⟩ : ∃ R, mrB n [2, 3, 5, 7] = R := ⟨_, rfl⟩
  have hr : mr (n : Int) = R := by unfold mr; rw [decide_eq_true (show 2 ≤ (n : Int) ∧ (n : Int) ≤ 2147483647 by omega), Bool.true_and]; exact hR
  rw [hr]
  have CP := Lib.hid (fun (b : Nat) (hb : b ≤ 7) => passes_any n b w hb (by omega) (by omega) hT)
  have HR := Lib.hid hR
  clear hr hT hR
  go_enter Tryz.func31, Tryz.ntmps31
  go_wp2
  go_loopw [12] (fun iv wr => ∃ z : Int, iv = .int .i64 z ∧ ((z = 0 ∧ Hid (mrB n [2, 3, 5, 7] = R)) ∨ (z = 1 ∧ Hid (mrB n [3, 5, 7] = R)) ∨ (z = 2 ∧ Hid (mrB n [5, 7] = R)) ∨ (z = 3 ∧ Hid (mrB n [7] = R)) ∨ (z = 4 ∧ Hid (mrB n [] = R))) ∧ w = wr)
    (fun iv _ => 4 - (intOf iv).toNat)
  case atStart => exact ⟨0, rfl, Or.inl ⟨rfl, HR⟩, rfl⟩
  case round =>
    obtain ⟨z, rfl, hz, rfl⟩ := hrel
    clear HR
    rcases hz with ⟨rfl, HI⟩ | ⟨rfl, HI⟩ | ⟨rfl, HI⟩ | ⟨rfl, HI⟩ | ⟨rfl, HI⟩
    · have hb : mrB n [2, 3, 5, 7] = R := HI.out
      by_cases hd : n % 2 = 0
      · have hr : R = Nat.beq n 2 := by rw [← hb]; show cond (Nat.beq (n % 2) 0) _ _ = _; rw [hd]; rfl
        have hdi : (n : Int) % 2 = 0 := by omega
        clear hb HI hd CP
        have hix : ∀ w, (Instr.index 89 (.agg #[.int .i64 2, .int .i64 3, .int .i64 5, .int .i64 7]) (.int .i64 0)).run Tryz.prog w = .ok (.int .i64 2) w := fun _ => by kernel_rfl
        have hr2 : R = ((n : Int) == 2) := by
          rw [hr]
          by_cases he : n = 2
          · rw [he]; rfl
          · rw [beq_false he]
            exact (beq_eq_false_iff_ne.2 (show (n : Int) ≠ 2 by omega)).symm
        clear hr
        go_wp2
        go_ret
        exact ⟨by rw [hr2]; rfl, rfl⟩
      · have hr : R = cond (passB n 2) (mrB n [3, 5, 7]) false := by rw [← hb]; show cond (Nat.beq (n % 2) 0) _ _ = _; rw [beq_false hd]; rfl
        have hdi : (n : Int) % 2 ≠ 0 := by omega
        clear hb HI hd
        have hix : ∀ w, (Instr.index 89 (.agg #[.int .i64 2, .int .i64 3, .int .i64 5, .int .i64 7]) (.int .i64 0)).run Tryz.prog w = .ok (.int .i64 2) w := fun _ => by kernel_rfl
        go_wp2_with fail
        refine (CP.out 2 (by decide)).mono ?_
        rintro e w1 ⟨rfl, rfl⟩
        clear CP
        cases hpb : passB n 2 with
        | false =>
          have hr2 : R = false := by rw [hr, hpb]; rfl
          clear hr hpb
          subst hr2
          go_wp2
          go_ret
          exact ⟨rfl, rfl⟩
        | true =>
          have HR := Lib.hid (show mrB n [3, 5, 7] = R by rw [hr, hpb]; rfl)
          clear hr hpb
          go_wp2
          go_roundw
          case rel => exact ⟨1, rfl, Or.inr (Or.inl ⟨rfl, HR⟩), trivial⟩
          case measure => first | decide | (simp only [intOf]; omega)
    · have hb : mrB n [3, 5, 7] = R := HI.out
      by_cases hd : n % 3 = 0
      · have hr : R = Nat.beq n 3 := by rw [← hb]; show cond (Nat.beq (n % 3) 0) _ _ = _; rw [hd]; rfl
        have hdi : (n : Int) % 3 = 0 := by omega
        clear hb HI hd CP
        have hix : ∀ w, (Instr.index 89 (.agg #[.int .i64 2, .int .i64 3, .int .i64 5, .int .i64 7]) (.int .i64 1)).run Tryz.prog w = .ok (.int .i64 3) w := fun _ => by kernel_rfl
        have hr2 : R = ((n : Int) == 3) := by
          rw [hr]
          by_cases he : n = 3
          · rw [he]; rfl
          · rw [beq_false he]
            exact (beq_eq_false_iff_ne.2 (show (n : Int) ≠ 3 by omega)).symm
        clear hr
        go_wp2
        go_ret
        exact ⟨by rw [hr2]; rfl, rfl⟩
      · have hr : R = cond (passB n 3) (mrB n [5, 7]) false := by rw [← hb]; show cond (Nat.beq (n % 3) 0) _ _ = _; rw [beq_false hd]; rfl
        have hdi : (n : Int) % 3 ≠ 0 := by omega
        clear hb HI hd
        have hix : ∀ w, (Instr.index 89 (.agg #[.int .i64 2, .int .i64 3, .int .i64 5, .int .i64 7]) (.int .i64 1)).run Tryz.prog w = .ok (.int .i64 3) w := fun _ => by kernel_rfl
        go_wp2_with fail
        refine (CP.out 3 (by decide)).mono ?_
        rintro e w1 ⟨rfl, rfl⟩
        clear CP
        cases hpb : passB n 3 with
        | false =>
          have hr2 : R = false := by rw [hr, hpb]; rfl
          clear hr hpb
          subst hr2
          go_wp2
          go_ret
          exact ⟨rfl, rfl⟩
        | true =>
          have HR := Lib.hid (show mrB n [5, 7] = R by rw [hr, hpb]; rfl)
          clear hr hpb
          go_wp2
          go_roundw
          case rel => exact ⟨2, rfl, Or.inr (Or.inr (Or.inl ⟨rfl, HR⟩)), trivial⟩
          case measure => first | decide | (simp only [intOf]; omega)
    · have hb : mrB n [5, 7] = R := HI.out
      by_cases hd : n % 5 = 0
      · have hr : R = Nat.beq n 5 := by rw [← hb]; show cond (Nat.beq (n % 5) 0) _ _ = _; rw [hd]; rfl
        have hdi : (n : Int) % 5 = 0 := by omega
        clear hb HI hd CP
        have hix : ∀ w, (Instr.index 89 (.agg #[.int .i64 2, .int .i64 3, .int .i64 5, .int .i64 7]) (.int .i64 2)).run Tryz.prog w = .ok (.int .i64 5) w := fun _ => by kernel_rfl
        have hr2 : R = ((n : Int) == 5) := by
          rw [hr]
          by_cases he : n = 5
          · rw [he]; rfl
          · rw [beq_false he]
            exact (beq_eq_false_iff_ne.2 (show (n : Int) ≠ 5 by omega)).symm
        clear hr
        go_wp2
        go_ret
        exact ⟨by rw [hr2]; rfl, rfl⟩
      · have hr : R = cond (passB n 5) (mrB n [7]) false := by rw [← hb]; show cond (Nat.beq (n % 5) 0) _ _ = _; rw [beq_false hd]; rfl
        have hdi : (n : Int) % 5 ≠ 0 := by omega
        clear hb HI hd
        have hix : ∀ w, (Instr.index 89 (.agg #[.int .i64 2, .int .i64 3, .int .i64 5, .int .i64 7]) (.int .i64 2)).run Tryz.prog w = .ok (.int .i64 5) w := fun _ => by kernel_rfl
        go_wp2_with fail
        refine (CP.out 5 (by decide)).mono ?_
        rintro e w1 ⟨rfl, rfl⟩
        clear CP
        cases hpb : passB n 5 with
        | false =>
          have hr2 : R = false := by rw [hr, hpb]; rfl
          clear hr hpb
          subst hr2
          go_wp2
          go_ret
          exact ⟨rfl, rfl⟩
        | true =>
          have HR := Lib.hid (show mrB n [7] = R by rw [hr, hpb]; rfl)
          clear hr hpb
          go_wp2
          go_roundw
          case rel => exact ⟨3, rfl, Or.inr (Or.inr (Or.inr (Or.inl ⟨rfl, HR⟩))), trivial⟩
          case measure => first | decide | (simp only [intOf]; omega)
    · have hb : mrB n [7] = R := HI.out
      by_cases hd : n % 7 = 0
      · have hr : R = Nat.beq n 7 := by rw [← hb]; show cond (Nat.beq (n % 7) 0) _ _ = _; rw [hd]; rfl
        have hdi : (n : Int) % 7 = 0 := by omega
        clear hb HI hd CP
        have hix : ∀ w, (Instr.index 89 (.agg #[.int .i64 2, .int .i64 3, .int .i64 5, .int .i64 7]) (.int .i64 3)).run Tryz.prog w = .ok (.int .i64 7) w := fun _ => by kernel_rfl
        have hr2 : R = ((n : Int) == 7) := by
          rw [hr]
          by_cases he : n = 7
          · rw [he]; rfl
          · rw [beq_false he]
            exact (beq_eq_false_iff_ne.2 (show (n : Int) ≠ 7 by omega)).symm
        clear hr
        go_wp2
        go_ret
        exact ⟨by rw [hr2]; rfl, rfl⟩
      · have hr : R = cond (passB n 7) (mrB n []) false := by rw [← hb]; show cond (Nat.beq (n % 7) 0) _ _ = _; rw [beq_false hd]; rfl
        have hdi : (n : Int) % 7 ≠ 0 := by omega
        clear hb HI hd
        have hix : ∀ w, (Instr.index 89 (.agg #[.int .i64 2, .int .i64 3, .int .i64 5, .int .i64 7]) (.int .i64 3)).run Tryz.prog w = .ok (.int .i64 7) w := fun _ => by kernel_rfl
        go_wp2_with fail
        refine (CP.out 7 (by decide)).mono ?_
        rintro e w1 ⟨rfl, rfl⟩
        clear CP
        cases hpb : passB n 7 with
        | false =>
          have hr2 : R = false := by rw [hr, hpb]; rfl
          clear hr hpb
          subst hr2
          go_wp2
          go_ret
          exact ⟨rfl, rfl⟩
        | true =>
          have HR := Lib.hid (show mrB n [] = R by rw [hr, hpb]; rfl)
          clear hr hpb
          go_wp2
          go_roundw
          case rel => exact ⟨4, rfl, Or.inr (Or.inr (Or.inr (Or.inr (⟨rfl, HR⟩)))), trivial⟩
          case measure => first | decide | (simp only [intOf]; omega)
    · have hb : R = true := HI.out.symm
      subst hb
      clear HI CP
      go_wp2
      go_ret
      exact ⟨rfl, rfl⟩
end Go.Proofs.YthicfkeiggcjjaaGreatDoor

namespace Go.Proofs.YthicfkeiggcjjaaGreatDoor
open Go.RowKit

/-- a raw integer at hand: its value, its sign, its limbs -/
structure REnt where
  v : Value
  nb : Bool
  zs : List Int
def REnt.Ok (w : World) (p : REnt) : Prop := ∃ ao n ca, p.v = .agg #[.bool p.nb, .slice ao n ca] ∧ Sl w ao n ca p.zs
theorem REnt.Ok.ext {w w' : World} {p : REnt} (h : p.Ok w) (he : Ext w w') : p.Ok w' := by
  obtain ⟨ao, n, ca, h1, h2⟩ := h
  exact ⟨ao, n, ca, h1, h2.below he⟩
theorem REnt.Ok.only_box {w w' : World} {p : REnt} {g : Nat} {nb : Bool} {ao : Option Addr} {n ca : Nat} (h : p.Ok w) (hb : Box w g nb ao n ca) (ho : Only g w w') : p.Ok w' := by
  obtain ⟨ao, n, ca, h1, h2⟩ := h
  exact ⟨ao, n, ca, h1, h2.only_box hb ho⟩
structure RSt (W w : World) (L : List REnt) : Prop where
  ext : Ext W w
  bag : ∀ p ∈ L, p.Ok w
theorem RSt.step {W w w' : World} {L : List REnt} (h : RSt W w L) (he : Ext w w') : RSt W w' L := ⟨h.ext.trans he, fun p hp => (h.bag p hp).ext he⟩
theorem RSt.drew {W w : World} {L : List REnt} (h : RSt W w L) : RSt W w.drew L := h.step (Below.refl _ _).drew
theorem RSt.alloc {W w : World} {L : List REnt} (h : RSt W w L) (o : Obj) : RSt W (w.alloc o) L := h.step ((Below.refl _ w).alloc (Nat.le_refl _) o)
theorem RSt.stored {W w : World} {L : List REnt} {g : Nat} {nb : Bool} {ao : Option Addr} {n ca : Nat} (h : RSt W w L) (hb : Box w g nb ao n ca) (hg : W.heap.size ≤ g) (mb : Bool) (bo : Option Addr) (m cb : Nat) :
    RSt W ((w.setCell ⟨g, 0, none⟩ (.bool mb)).setCell ⟨g, 1, none⟩ (.slice bo m cb)) L :=
  ⟨Below.trans h.ext ((only_set2 w g _ _).below hg), fun p hp => (h.bag p hp).only_box hb (only_set2 w g _ _)⟩

/-- both variables are written -/
theorem bpair_stored {W w : World} {L : List REnt} {g h : Nat} {xn yn : Bool} {xo yo : Option Addr} {xk xc yk yc : Nat} {an bn : Bool} {ao bo : Option Addr} {ak ac bk bc : Nat}
    (hg : Box w g an ao ak ac) (hh : Box w h bn bo bk bc) (hne : g ≠ h) (hst : RSt W w L) (h1 : W.heap.size ≤ g) (h2 : W.heap.size ≤ h) :
    Box ((((w.setCell ⟨g, 0, none⟩ (.bool xn)).setCell ⟨g, 1, none⟩ (.slice xo xk xc)).setCell ⟨h, 0, none⟩ (.bool yn)).setCell ⟨h, 1, none⟩ (.slice yo yk yc)) g xn xo xk xc ∧
    Box ((((w.setCell ⟨g, 0, none⟩ (.bool xn)).setCell ⟨g, 1, none⟩ (.slice xo xk xc)).setCell ⟨h, 0, none⟩ (.bool yn)).setCell ⟨h, 1, none⟩ (.slice yo yk yc)) h yn yo yk yc ∧
    RSt W ((((w.setCell ⟨g, 0, none⟩ (.bool xn)).setCell ⟨g, 1, none⟩ (.slice xo xk xc)).setCell ⟨h, 0, none⟩ (.bool yn)).setCell ⟨h, 1, none⟩ (.slice yo yk yc)) L := by
  have a := hg.stored xn xo xk xc
  have b := hh.only (only_set2 w g (.bool xn) (.slice xo xk xc)) (Ne.symm hne)
  have s := hst.stored hg h1 xn xo xk xc
  exact ⟨a.only (only_set2 _ h _ _) hne, b.stored yn yo yk yc, s.stored b h2 yn yo yk yc⟩

theorem ext_allocB (w : World) (o : Obj) : Ext w (w.alloc o) := (Below.refl _ _).alloc (Nat.le_refl _) o
theorem ext_drewB (w : World) : Ext w w.drew := (Below.refl _ _).drew
theorem sizeB {a b : World} (h : Ext a b) : a.heap.size ≤ b.heap.size := Below.size h
theorem bbox_new1v (w : World) (o : Obj) (nb : Bool) (ao : Option Addr) (n ca : Nat) : Box ((w.alloc o).alloc (.cells #[.bool nb, .slice ao n ca] 52)) (w.heap.size + 1) nb ao n ca := by
  have := Box.new (w.alloc o) nb ao n ca
  simpa using this
theorem bbox_in1 {w wn : World} (h : Ext (w.alloc (.cells #[.bool false, .slice none 0 0] 52)) wn) : Box wn w.heap.size false none 0 0 := (Box.new w _ _ _ _).below h
theorem bbox_in2 {w wn : World} (h : Ext ((w.alloc (.cells #[.bool false, .slice none 0 0] 52)).alloc (.cells #[.bool false, .slice none 0 0] 52)) wn) :
    Box wn w.heap.size false none 0 0 ∧ Box wn (w.heap.size + 1) false none 0 0 :=
  ⟨((Box.new w _ _ _ _).below (ext_allocB _ _)).below h, (bbox_new1v w _ false none 0 0).below h⟩
theorem bbox_in1d {w wn : World} (h : Ext (w.alloc (.cells #[.bool false, .slice none 0 0] 52)).drew wn) : Box wn w.heap.size false none 0 0 := bbox_in1 ((ext_drewB _).trans h)
theorem bbox_in2d {w wn : World} (h : Ext ((w.alloc (.cells #[.bool false, .slice none 0 0] 52)).alloc (.cells #[.bool false, .slice none 0 0] 52)).drew wn) :
    Box wn w.heap.size false none 0 0 ∧ Box wn (w.heap.size + 1) false none 0 0 := bbox_in2 ((ext_drewB _).trans h)
theorem bbox_new_set (w : World) (g : Nat) (u v : Value) (nb : Bool) (ao : Option Addr) (n ca : Nat) :
    Box (((w.setCell ⟨g, 0, none⟩ u).setCell ⟨g, 1, none⟩ v).alloc (.cells #[.bool nb, .slice ao n ca] 52)) w.heap.size nb ao n ca := by
  have := Box.new ((w.setCell ⟨g, 0, none⟩ u).setCell ⟨g, 1, none⟩ v) nb ao n ca
  rwa [(only_set2 w g u v).size] at this

theorem bcells_only {w w' : World} {g B : Nat} {a b : Option Value} (ho : Only g w w') (hne : g ≠ B) (h : w.cell? ⟨B, 0, none⟩ = a ∧ w.cell? ⟨B, 1, none⟩ = b) : w'.cell? ⟨B, 0, none⟩ = a ∧ w'.cell? ⟨B, 1, none⟩ = b := by
  have e : ∀ i, w'.cell? ⟨B, i, none⟩ = w.cell? ⟨B, i, none⟩ := fun i => World.cell?_of_block (w := w) (ho.block B (Ne.symm hne))
  rw [e, e]
  exact h
theorem bcells_stored {w : World} {g B : Nat} {u v : Value} {a b : Option Value} (hne : g ≠ B) (h : w.cell? ⟨B, 0, none⟩ = a ∧ w.cell? ⟨B, 1, none⟩ = b) :
    ((w.setCell ⟨g, 0, none⟩ u).setCell ⟨g, 1, none⟩ v).cell? ⟨B, 0, none⟩ = a ∧ ((w.setCell ⟨g, 0, none⟩ u).setCell ⟨g, 1, none⟩ v).cell? ⟨B, 1, none⟩ = b := bcells_only (only_set2 w g u v) hne h
theorem bcells_alloc {w : World} {B : Nat} {o : Obj} {a b : Value} (h : w.cell? ⟨B, 0, none⟩ = some a ∧ w.cell? ⟨B, 1, none⟩ = some b) : (w.alloc o).cell? ⟨B, 0, none⟩ = some a ∧ (w.alloc o).cell? ⟨B, 1, none⟩ = some b := by
  obtain ⟨h0, h1⟩ := h
  have hb := lt_of_cell h0
  refine ⟨?_, ?_⟩
  · rw [World.cell?_alloc_past _ _ _ hb]; exact h0
  · rw [World.cell?_alloc_past _ _ _ hb]; exact h1
theorem bcells_drew {w : World} {B : Nat} {a b : Option Value} (h : w.cell? ⟨B, 0, none⟩ = a ∧ w.cell? ⟨B, 1, none⟩ = b) : w.drew.cell? ⟨B, 0, none⟩ = a ∧ w.drew.cell? ⟨B, 1, none⟩ = b := h

/-- both variables are laid behind the calls -/
theorem bfin_new {W w : World} {L : List REnt} {xn yn : Bool} {xo yo : Option Addr} {xk xc yk yc : Nat} (h : RSt W w L) :
    Box ((w.alloc (.cells #[.bool xn, .slice xo xk xc] 52)).alloc (.cells #[.bool yn, .slice yo yk yc] 52)) w.heap.size xn xo xk xc ∧ Box ((w.alloc (.cells #[.bool xn, .slice xo xk xc] 52)).alloc (.cells #[.bool yn, .slice yo yk yc] 52)) (w.heap.size + 1) yn yo yk yc ∧ RSt W ((w.alloc (.cells #[.bool xn, .slice xo xk xc] 52)).alloc (.cells #[.bool yn, .slice yo yk yc] 52)) L :=
  ⟨(Box.new w xn xo xk xc).below (ext_allocB _ _), bbox_new1v _ _ yn yo yk yc, (h.alloc _).alloc _⟩
/-- one is laid behind the calls -/
theorem bfin_mix {W w : World} {L : List REnt} {g : Nat} {xn yn : Bool} {xo yo : Option Addr} {xk xc yk yc : Nat} {an : Bool} {ao : Option Addr} {ak ac : Nat} (h : RSt W w L) (hx : Box w g an ao ak ac) (hg : W.heap.size ≤ g) :
    Box (((w.setCell ⟨g, 0, none⟩ (.bool xn)).setCell ⟨g, 1, none⟩ (.slice xo xk xc)).alloc (.cells #[.bool yn, .slice yo yk yc] 52)) g xn xo xk xc ∧ Box (((w.setCell ⟨g, 0, none⟩ (.bool xn)).setCell ⟨g, 1, none⟩ (.slice xo xk xc)).alloc (.cells #[.bool yn, .slice yo yk yc] 52)) w.heap.size yn yo yk yc ∧ RSt W (((w.setCell ⟨g, 0, none⟩ (.bool xn)).setCell ⟨g, 1, none⟩ (.slice xo xk xc)).alloc (.cells #[.bool yn, .slice yo yk yc] 52)) L :=
  ⟨(hx.stored xn xo xk xc).below (ext_allocB _ _), bbox_new_set _ _ _ _ yn yo yk yc, (h.stored hx hg xn xo xk xc).alloc _⟩

end Go.Proofs.YthicfkeiggcjjaaGreatDoor
