import Derived.Test.YtlpclahlolhjfaaGreatDoorMoCoU18
import Derived.Test.YtlpclahlolhjfaaGreatDoorMoCoU6
import Derived.Deep.RegionHeld3
import Derived.Test.YtlpclahlolhjfaaGreatDoorMoCoU12
import Derived.Deep.RegionLaw
import Derived.Deep.CutRange
import Derived.Test.YtlpclahlolhjfaaGreatDoorMoCoU13
namespace Go.Proofs.YtlpclahlolhjfaaGreatDoor
open Go.RowKit

/-- no divisor below d -/
def NoBelow (n d : Nat) : Prop := ∀ e, 2 ≤ e → e < d → e * e ≤ n → n % e ≠ 0

set_option maxRecDepth 100000 in
set_option maxHeartbeats 4000000 in
theorem refIsPrime_any (p : Int) (w : World) :
    Calls Tryz.prog 8 #[.int .i64 p] w fun e w' => e = .returned (.bool (isP p)) ∧ w = w' := by
  by_cases h1 : p < 2
  · have hr : isP p = false := isP_of (by simp; omega)
    rw [hr]
    clear hr
    go_enter Tryz.func8, Tryz.ntmps8
    go_wp2
    go_ret
    exact ⟨rfl, rfl⟩
  by_cases h2 : 2147483647 < p
  · have hr : isP p = false := isP_of (by simp; omega)
    rw [hr]
    clear hr
    go_enter Tryz.func8, Tryz.ntmps8
    go_wp2
    go_ret
    exact ⟨rfl, rfl⟩
  obtain ⟨n, rfl⟩ := Int.eq_ofNat_of_zero_le (show 0 ≤ p by omega)
  obtain ⟨R, hR⟩ : ∃ R, isP (n : Int) = R := ⟨_, rfl⟩
  rw [hR]
  have HR := Lib.hid (show R = true ↔ noDiv n 2 by rw [← hR, isP_iff]; exact ⟨fun h => h.2.2, fun h => ⟨by omega, by omega, h⟩⟩)
  clear hR
  go_enter Tryz.func8, Tryz.ntmps8
  go_wp2
  go_loopw [3] (fun iv wr => ∃ d : Int, 2 ≤ d ∧ d ≤ 46341 ∧ iv = .int .i64 d ∧ Hid (NoBelow n d.toNat) ∧ w = wr)
    (fun iv _ => 46341 - (intOf iv).toNat)
  case atStart => exact ⟨2, by omega, by omega, rfl, Lib.hid (fun e h1 h2 => absurd h2 (by simp; omega)), rfl⟩
  case round =>
    obtain ⟨d, hd, hd1, rfl, HI, rfl⟩ := hrel
    have hdd : d * d ≤ 46341 * 46341 := Int.mul_le_mul hd1 hd1 (by omega) (by omega)
    have hdd0 : 0 ≤ d * d := Int.mul_nonneg (by omega) (by omega)
    obtain ⟨D, hD⟩ : ∃ D, d * d = D := ⟨_, rfl⟩
    have hw : IntKind.i64.wrap D = D := IntWalk.i64_in _ (by omega)
    have hdn : d = (d.toNat : Int) := by omega
    have hDn : D = ((d.toNat * d.toNat : Nat) : Int) := by rw [← hD, Int.natCast_mul, ← hdn]
    rw [hD] at hdd hdd0
    by_cases hle : D ≤ (n : Int)
    · have hd3 : d ≤ 46340 := by
        rcases Int.lt_or_le d 46341 with h | h
        · omega
        · have := Int.mul_le_mul h h (by omega) (by omega)
          omega
      have ht : (n : Int).tmod d = (n : Int) % d := Int.tmod_eq_emod_of_nonneg (by omega)
      obtain ⟨z, hz⟩ : ∃ z, (n : Int) % d = z := ⟨_, rfl⟩
      have hzn : z = ((n % d.toNat : Nat) : Int) := by rw [← hz, Int.natCast_emod, ← hdn]
      rw [hz] at ht
      have hz0 := Int.emod_nonneg (n : Int) (show d ≠ 0 by omega)
      rw [hz] at hz0
      by_cases h0 : z = 0
      · have hr : R = false := by
          cases hc : R with
          | false => rfl
          | true => exact absurd (show n % d.toNat = 0 by omega) (HR.out.1 hc d.toNat (by omega) (by omega))
        subst hr
        subst h0
        clear hz hzn hz0 HI HR hDn hdn
        go_wp2
        go_ret
        exact ⟨rfl, rfl⟩
      · have hn : NoBelow n (d + 1).toNat := by
          intro e he he1 hee
          rcases Nat.lt_or_ge e d.toNat with h | h
          · exact HI.out e he h hee
          · obtain rfl : e = d.toNat := by omega
            omega
        have HN := Lib.hid hn
        clear hz hzn hz0 HI HR hDn hdn hn
        go_wp2
        go_roundw
        case rel => exact ⟨d + 1, by omega, by omega, rfl, HN, trivial⟩
        case measure => simp [intOf]; omega
    · have hr : R = true := HR.out.2 fun e he hee => HI.out e he (by
        rcases Nat.lt_or_ge e d.toNat with h | h
        · exact h
        · have := Nat.mul_le_mul h h; omega) hee
      subst hr
      clear HI HR hDn hdn
      go_wp2
      go_ret
      exact ⟨rfl, rfl⟩
end Go.Proofs.YtlpclahlolhjfaaGreatDoor

namespace Go.Proofs.YtlpclahlolhjfaaGreatDoor
open Go Go.RowKit

theorem Own.only {w w' : World} {B g : Nat} {v : Value} {L : List Int} (h : Own w B v L) (ho : Only g w w') (hg : g < B) : Own w' B v L := by
  obtain ⟨h1, h2⟩ := h
  refine ⟨h1, ?_⟩
  rcases h2 with ⟨hv, h0⟩ | ⟨k, cap, cur, hv, hb, hk, r⟩
  · exact Or.inl ⟨hv, h0⟩
  · exact Or.inr ⟨k, cap, cur, hv, hb, by rw [ho.block k (by omega)]; exact hk, r⟩
theorem Own.drew {w : World} {B : Nat} {v : Value} {L : List Int} (h : Own w B v L) : Own w.drew B v L := h
end Go.Proofs.YtlpclahlolhjfaaGreatDoor

namespace Go.Proofs.YtlpclahlolhjfaaGreatDoor
open Go.RowKit

/-- a raw integer at hand: its value, its sign, its limbs -/
structure REnt where
  v : Value
  nb : Bool
  zs : List Int
def REnt.Ok (w : World) (p : REnt) : Prop := ∃ ao n ca, p.v = .agg #[.bool p.nb, .slice ao n ca] ∧ Sl w ao n ca p.zs
theorem REnt.Ok.ext {w w' : World} {p : REnt} (h : p.Ok w) (he : Ext w w') : p.Ok w' := by
  obtain ⟨ao, n, ca, h1, h2⟩ := h
  exact ⟨ao, n, ca, h1, h2.below he⟩
theorem REnt.Ok.only_box {w w' : World} {p : REnt} {g : Nat} {nb : Bool} {ao : Option Addr} {n ca : Nat} (h : p.Ok w) (hb : Box w g nb ao n ca) (ho : Only g w w') : p.Ok w' := by
  obtain ⟨ao, n, ca, h1, h2⟩ := h
  exact ⟨ao, n, ca, h1, h2.only_box hb ho⟩
theorem REnt.Ok.parts {w : World} {v : Value} {nb : Bool} {zs : List Int} (h : REnt.Ok w ⟨v, nb, zs⟩) : ∃ ao n ca, v = .agg #[.bool nb, .slice ao n ca] ∧ Sl w ao n ca zs := h
structure RSt (W w : World) (L : List REnt) : Prop where
  ext : Ext W w
  bag : ∀ p ∈ L, p.Ok w
theorem RSt.step {W w w' : World} {L : List REnt} (h : RSt W w L) (he : Ext w w') : RSt W w' L := ⟨h.ext.trans he, fun p hp => (h.bag p hp).ext he⟩
theorem RSt.drew {W w : World} {L : List REnt} (h : RSt W w L) : RSt W w.drew L := h.step (Below.refl _ _).drew
theorem RSt.alloc {W w : World} {L : List REnt} (h : RSt W w L) (o : Obj) : RSt W (w.alloc o) L := h.step ((Below.refl _ w).alloc (Nat.le_refl _) o)
theorem RSt.stored {W w : World} {L : List REnt} {g : Nat} {nb : Bool} {ao : Option Addr} {n ca : Nat} (h : RSt W w L) (hb : Box w g nb ao n ca) (hg : W.heap.size ≤ g) (mb : Bool) (bo : Option Addr) (m cb : Nat) :
    RSt W ((w.setCell ⟨g, 0, none⟩ (.bool mb)).setCell ⟨g, 1, none⟩ (.slice bo m cb)) L :=
  ⟨Below.trans h.ext ((only_set2 w g _ _).below hg), fun p hp => (h.bag p hp).only_box hb (only_set2 w g _ _)⟩

/-- both variables are written -/
theorem bpair_stored {W w : World} {L : List REnt} {g h : Nat} {xn yn : Bool} {xo yo : Option Addr} {xk xc yk yc : Nat} {an bn : Bool} {ao bo : Option Addr} {ak ac bk bc : Nat}
    (hg : Box w g an ao ak ac) (hh : Box w h bn bo bk bc) (hne : g ≠ h) (hst : RSt W w L) (h1 : W.heap.size ≤ g) (h2 : W.heap.size ≤ h) :
    Box ((((w.setCell ⟨g, 0, none⟩ (.bool xn)).setCell ⟨g, 1, none⟩ (.slice xo xk xc)).setCell ⟨h, 0, none⟩ (.bool yn)).setCell ⟨h, 1, none⟩ (.slice yo yk yc)) g xn xo xk xc ∧
    Box ((((w.setCell ⟨g, 0, none⟩ (.bool xn)).setCell ⟨g, 1, none⟩ (.slice xo xk xc)).setCell ⟨h, 0, none⟩ (.bool yn)).setCell ⟨h, 1, none⟩ (.slice yo yk yc)) h yn yo yk yc ∧
    RSt W ((((w.setCell ⟨g, 0, none⟩ (.bool xn)).setCell ⟨g, 1, none⟩ (.slice xo xk xc)).setCell ⟨h, 0, none⟩ (.bool yn)).setCell ⟨h, 1, none⟩ (.slice yo yk yc)) L := by
  have a := hg.stored xn xo xk xc
  have b := hh.only (only_set2 w g (.bool xn) (.slice xo xk xc)) (Ne.symm hne)
  have s := hst.stored hg h1 xn xo xk xc
  exact ⟨a.only (only_set2 _ h _ _) hne, b.stored yn yo yk yc, s.stored b h2 yn yo yk yc⟩

theorem ext_allocB (w : World) (o : Obj) : Ext w (w.alloc o) := (Below.refl _ _).alloc (Nat.le_refl _) o
theorem ext_drewB (w : World) : Ext w w.drew := (Below.refl _ _).drew
theorem sizeB {a b : World} (h : Ext a b) : a.heap.size ≤ b.heap.size := Below.size h
theorem bbox_new1v (w : World) (o : Obj) (nb : Bool) (ao : Option Addr) (n ca : Nat) : Box ((w.alloc o).alloc (.cells #[.bool nb, .slice ao n ca] 27)) (w.heap.size + 1) nb ao n ca := by
  have := Box.new (w.alloc o) nb ao n ca
  simpa using this
theorem bbox_in1 {w wn : World} (h : Ext (w.alloc (.cells #[.bool false, .slice none 0 0] 27)) wn) : Box wn w.heap.size false none 0 0 := (Box.new w _ _ _ _).below h
theorem bbox_in2 {w wn : World} (h : Ext ((w.alloc (.cells #[.bool false, .slice none 0 0] 27)).alloc (.cells #[.bool false, .slice none 0 0] 27)) wn) :
    Box wn w.heap.size false none 0 0 ∧ Box wn (w.heap.size + 1) false none 0 0 :=
  ⟨((Box.new w _ _ _ _).below (ext_allocB _ _)).below h, (bbox_new1v w _ false none 0 0).below h⟩
theorem bbox_in1d {w wn : World} (h : Ext (w.alloc (.cells #[.bool false, .slice none 0 0] 27)).drew wn) : Box wn w.heap.size false none 0 0 := bbox_in1 ((ext_drewB _).trans h)
theorem bbox_in2d {w wn : World} (h : Ext ((w.alloc (.cells #[.bool false, .slice none 0 0] 27)).alloc (.cells #[.bool false, .slice none 0 0] 27)).drew wn) :
    Box wn w.heap.size false none 0 0 ∧ Box wn (w.heap.size + 1) false none 0 0 := bbox_in2 ((ext_drewB _).trans h)
theorem bbox_new_set (w : World) (g : Nat) (u v : Value) (nb : Bool) (ao : Option Addr) (n ca : Nat) :
    Box (((w.setCell ⟨g, 0, none⟩ u).setCell ⟨g, 1, none⟩ v).alloc (.cells #[.bool nb, .slice ao n ca] 27)) w.heap.size nb ao n ca := by
  have := Box.new ((w.setCell ⟨g, 0, none⟩ u).setCell ⟨g, 1, none⟩ v) nb ao n ca
  rwa [(only_set2 w g u v).size] at this

theorem bcells_only {w w' : World} {g B : Nat} {a b : Option Value} (ho : Only g w w') (hne : g ≠ B) (h : w.cell? ⟨B, 0, none⟩ = a ∧ w.cell? ⟨B, 1, none⟩ = b) : w'.cell? ⟨B, 0, none⟩ = a ∧ w'.cell? ⟨B, 1, none⟩ = b := by
  have e : ∀ i, w'.cell? ⟨B, i, none⟩ = w.cell? ⟨B, i, none⟩ := fun i => World.cell?_of_block (w := w) (ho.block B (Ne.symm hne))
  rw [e, e]
  exact h
theorem bcells_stored {w : World} {g B : Nat} {u v : Value} {a b : Option Value} (hne : g ≠ B) (h : w.cell? ⟨B, 0, none⟩ = a ∧ w.cell? ⟨B, 1, none⟩ = b) :
    ((w.setCell ⟨g, 0, none⟩ u).setCell ⟨g, 1, none⟩ v).cell? ⟨B, 0, none⟩ = a ∧ ((w.setCell ⟨g, 0, none⟩ u).setCell ⟨g, 1, none⟩ v).cell? ⟨B, 1, none⟩ = b := bcells_only (only_set2 w g u v) hne h
theorem bcells_alloc {w : World} {B : Nat} {o : Obj} {a b : Value} (h : w.cell? ⟨B, 0, none⟩ = some a ∧ w.cell? ⟨B, 1, none⟩ = some b) : (w.alloc o).cell? ⟨B, 0, none⟩ = some a ∧ (w.alloc o).cell? ⟨B, 1, none⟩ = some b := by
  obtain ⟨h0, h1⟩ := h
  have hb := lt_of_cell h0
  refine ⟨?_, ?_⟩
  · rw [World.cell?_alloc_past _ _ _ hb]; exact h0
  · rw [World.cell?_alloc_past _ _ _ hb]; exact h1
theorem bcells_drew {w : World} {B : Nat} {a b : Option Value} (h : w.cell? ⟨B, 0, none⟩ = a ∧ w.cell? ⟨B, 1, none⟩ = b) : w.drew.cell? ⟨B, 0, none⟩ = a ∧ w.drew.cell? ⟨B, 1, none⟩ = b := h

/-- both variables are laid behind the calls -/
theorem bfin_new {W w : World} {L : List REnt} {xn yn : Bool} {xo yo : Option Addr} {xk xc yk yc : Nat} (h : RSt W w L) :
    Box ((w.alloc (.cells #[.bool xn, .slice xo xk xc] 27)).alloc (.cells #[.bool yn, .slice yo yk yc] 27)) w.heap.size xn xo xk xc ∧ Box ((w.alloc (.cells #[.bool xn, .slice xo xk xc] 27)).alloc (.cells #[.bool yn, .slice yo yk yc] 27)) (w.heap.size + 1) yn yo yk yc ∧ RSt W ((w.alloc (.cells #[.bool xn, .slice xo xk xc] 27)).alloc (.cells #[.bool yn, .slice yo yk yc] 27)) L :=
  ⟨(Box.new w xn xo xk xc).below (ext_allocB _ _), bbox_new1v _ _ yn yo yk yc, (h.alloc _).alloc _⟩
/-- one is laid behind the calls -/
theorem bfin_mix {W w : World} {L : List REnt} {g : Nat} {xn yn : Bool} {xo yo : Option Addr} {xk xc yk yc : Nat} {an : Bool} {ao : Option Addr} {ak ac : Nat} (h : RSt W w L) (hx : Box w g an ao ak ac) (hg : W.heap.size ≤ g) :
    Box (((w.setCell ⟨g, 0, none⟩ (.bool xn)).setCell ⟨g, 1, none⟩ (.slice xo xk xc)).alloc (.cells #[.bool yn, .slice yo yk yc] 27)) g xn xo xk xc ∧ Box (((w.setCell ⟨g, 0, none⟩ (.bool xn)).setCell ⟨g, 1, none⟩ (.slice xo xk xc)).alloc (.cells #[.bool yn, .slice yo yk yc] 27)) w.heap.size yn yo yk yc ∧ RSt W (((w.setCell ⟨g, 0, none⟩ (.bool xn)).setCell ⟨g, 1, none⟩ (.slice xo xk xc)).alloc (.cells #[.bool yn, .slice yo yk yc] 27)) L :=
  ⟨(hx.stored xn xo xk xc).below (ext_allocB _ _), bbox_new_set _ _ _ _ yn yo yk yc, (h.stored hx hg xn xo xk xc).alloc _⟩

end Go.Proofs.YtlpclahlolhjfaaGreatDoor
