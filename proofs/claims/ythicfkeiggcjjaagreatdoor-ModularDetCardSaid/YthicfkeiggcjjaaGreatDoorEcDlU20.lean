import Derived.Test.YthicfkeiggcjjaaGreatDoorEcDlU0
import Derived.Test.YthicfkeiggcjjaaGreatDoorEcDlU13
import Derived.Test.YthicfkeiggcjjaaGreatDoorEcDlU14
import Derived.Test.YthicfkeiggcjjaaGreatDoorEcDlU7
import Derived.Test.YthicfkeiggcjjaaGreatDoorEcDlU2
import Derived.Test.YthicfkeiggcjjaaGreatDoorEcDlU19
import Derived.Test.YthicfkeiggcjjaaGreatDoorEcDlU3
import Derived.Laws.AppendOwn
import Derived.OwnWalk
import Derived.Test.YthicfkeiggcjjaaGreatDoorEcDlU5
import Derived.Deep.QuietTactic
import Derived.BigQuiet
import Derived.Test.YthicfkeiggcjjaaGreatDoorEcDlU15
import Derived.Deep.RegionHeld3
import Derived.Deep.CutRange
import Derived.Deep.RegionWith
import Derived.Laws.Bits64b
import Derived.WalkKit
import Derived.Deep.CutBlock
import Derived.LoopTactic
import Derived.RegionTactic
import Derived.ChangeAlike
import Derived.Test.YthicfkeiggcjjaaGreatDoorEcDlU9
namespace Go.Proofs.YthicfkeiggcjjaaGreatDoor

/-- a dyad: none if it is not representable, otherwise the odd integer and the exponent (or two zeros) -/
abbrev Dy := Option (Int × Int)

/-- the integer in units of 2^-65536; not for none -/
def sc : Dy → Int
  | none => 0
  | some (m, e) => m * 2 ^ (e + 65536).toNat

end Go.Proofs.YthicfkeiggcjjaaGreatDoor

namespace Go.Proofs.YthicfkeiggcjjaaGreatDoor
open Go.RowKit

section
variable {W w : World} {L : List Ent} {u v : Value} {x y : Int} {N M : Nat} {c d : Bool}
end

/-- two boxes -/
theorem box_pair (w : World) (nb : Bool) (ao : Option Addr) (n ca : Nat) (mb : Bool) (bo : Option Addr) (m cb : Nat) :
    ∃ W, W = (w.alloc (.cells #[.bool nb, .slice ao n ca] 52)).alloc (.cells #[.bool mb, .slice bo m cb] 52) ∧ Ext w W ∧ Box W w.heap.size nb ao n ca ∧ Box W (w.heap.size + 1) mb bo m cb := by
  refine ⟨_, rfl, ((Below.refl _ w).alloc (Nat.le_refl _) _).alloc (by simp) _, ?_, ?_⟩
  · exact (Box.new w nb ao n ca).below ((Below.refl _ _).alloc (Nat.le_refl _) _)
  · have := Box.new (w.alloc (.cells #[.bool nb, .slice ao n ca] 52)) mb bo m cb
    simpa using this

section
variable {W w : World} {L : List Ent} {u v : Value} {x y : Int} {N M : Nat} {c d : Bool}
theorem i64_lt {i : Int} (h : -9223372036854775808 ≤ i ∧ i ≤ 9223372036854775807) : i.natAbs < 4294967296 ^ 2 := by
  have : (4294967296 : Nat) ^ 2 = 18446744073709551616 := rfl
  omega
theorem fromInt_bag (h : St W w L) (i : Int) (hi : -9223372036854775808 ≤ i ∧ i ≤ 9223372036854775807) :
    Calls Tryz.prog 45 #[.int .i64 i] w fun e w' => ∃ r, e = .returned r ∧ St W w' (⟨r, i, 2, true⟩ :: L) :=
  (fromInt_any i w hi.1 hi.2).mono fun e w' ⟨nr, ro, k, cr, he, hr, hw⟩ => ⟨_, he, h.push hw (ok_bn hr (i64_lt hi) (by omega))⟩
end
end Go.Proofs.YthicfkeiggcjjaaGreatDoor

namespace Go.Proofs.YthicfkeiggcjjaaGreatDoor

def fmag (f : Nat) : Nat := f % 9223372036854775808
def ffld (f : Nat) : Nat := fmag f / 4503599627370496
/-- the significand -/
def sig (f : Nat) : Nat := if ffld f = 0 then fmag f else fmag f % 4503599627370496 + 4503599627370496
/-- the exponent of the last place, above the least one -/
def fsh (f : Nat) : Nat := ffld f - 1
/-- the absolute value in units of the least float -/
def fz (f : Nat) : Nat := sig f * 2 ^ fsh f
end Go.Proofs.YthicfkeiggcjjaaGreatDoor

namespace Go.Proofs.YthicfkeiggcjjaaGreatDoor
open Go.RowKit

theorem Box.ext' {w w' : World} {g : Nat} {nb : Bool} {ao : Option Addr} {n ca : Nat} (h : Box w g nb ao n ca) (he : Ext w w') : Box w' g nb ao n ca := h.below he
theorem Bg.ext {w w' : World} {nb : Bool} {ao : Option Addr} {n ca : Nat} {x : Int} (h : Bg w nb ao n ca x) (he : Ext w w') : Bg w' nb ao n ca x := h.below he

end Go.Proofs.YthicfkeiggcjjaaGreatDoor

namespace Go.Proofs.YthicfkeiggcjjaaGreatDoor
open Go Go.RowKit

/-- an integer as an entry at hand -/
def bent (v : Value) (x : Int) : REnt := ⟨v, decide (x < 0), limbs x.natAbs⟩
theorem bent_bn {w : World} {nb : Bool} {ao : Option Addr} {n ca : Nat} {x : Int} (h : REnt.Ok w (bent (.agg #[.bool nb, .slice ao n ca]) x)) : Bn w nb ao n ca x := by
  obtain ⟨_, _, _, e, hs⟩ := h
  simp only [bent, Value.agg.injEq, Array.mk.injEq, List.cons.injEq, Value.bool.injEq, Value.slice.injEq, and_true] at e
  obtain ⟨rfl, rfl, rfl, rfl⟩ := e
  exact ⟨rfl, hs⟩
theorem bn_bent {w : World} {nb : Bool} {ao : Option Addr} {n ca : Nat} {x : Int} (h : Bn w nb ao n ca x) : REnt.Ok w (bent (.agg #[.bool nb, .slice ao n ca]) x) := by
  have h1 := h.neg
  have h2 := h.sl
  subst h1
  exact ⟨ao, n, ca, rfl, h2⟩
theorem bag_cons {V w w' : World} {L : List REnt} {p : REnt} (h : RSt V w L) (he : Ext w w') (hp : p.Ok w') : RSt V w' (p :: L) := ⟨h.ext.trans he, fun q hq => by
  rcases List.mem_cons.1 hq with rfl | hq
  · exact hp
  · exact (h.bag q hq).ext he⟩
theorem fromInt_ent {V w : World} {L : List REnt} (p : Int) (h : RSt V w L) (h0 : -9223372036854775808 ≤ p ∧ p ≤ 9223372036854775807) :
    Calls Tryz.prog 45 #[.int .i64 p] w fun e w' => ∃ fn fo fk fc, e = .returned (.agg #[.bool fn, .slice fo fk fc]) ∧ Ext w w' ∧ RSt V w' (bent (.agg #[.bool fn, .slice fo fk fc]) p :: L) :=
  (fromInt_any p w h0.1 h0.2).mono fun _ _ ⟨nr, ro, k, cr, he, hn, hw⟩ => ⟨nr, ro, k, cr, he, hw, bag_cons h hw (bn_bent hn)⟩
theorem one_len {p : Int} (h0 : 0 < p) (hp : p ≤ 2147483648) : (limbs p.natAbs).length ≤ 1 := (limbs_len_le _ 1).2 (by omega)
theorem bent_bg {w : World} {nb : Bool} {ao : Option Addr} {n ca : Nat} {p : Int} (h : REnt.Ok w (bent (.agg #[.bool nb, .slice ao n ca]) p)) (h0 : 0 < p) (hp : p ≤ 2147483648) : Bg w nb ao n ca p := by
  have hb := bent_bn h
  have := one_len h0 hp
  rw [hb.sl.len] at this
  exact hb.bg (by omega)
theorem divMod_ent {V w : World} {L : List REnt} (nb : Bool) (ao : Option Addr) (n ca : Nat) (x p : Int) (fn : Bool) (fo : Option Addr) (fk fc : Nat) (h : RSt V w (bent (.agg #[.bool fn, .slice fo fk fc]) p :: L)) (ha : Bg w nb ao n ca x) (hn : n ≤ 100000000) (h0 : 0 < p) (hp : p ≤ 2147483648) :
    Calls Tryz.prog 84 #[.agg #[.bool nb, .slice ao n ca], .agg #[.bool fn, .slice fo fk fc]] w fun e w' => ∃ xn xo xk xc yn yo yk yc, e = .returned (.tuple #[.agg #[.bool xn, .slice xo xk xc], .agg #[.bool yn, .slice yo yk yc], .int .i64 0]) ∧ Ext w w' ∧ RSt V w' [bent (.agg #[.bool yn, .slice yo yk yc]) (x % p)] := by
  have hb := bent_bg (h.bag _ (List.Mem.head _)) h0 hp
  refine (divMod_any nb fn ao n ca fo fk fc x p w ha hb (by omega) hn (div_says _ _ (by omega))).mono fun e w' ⟨xn, xo, xk, xc, yn, yo, yk, yc, he, _, hr, hw⟩ => ⟨xn, xo, xk, xc, yn, yo, yk, yc, he, hw, h.ext.trans hw, fun q hq => ?_⟩
  rw [List.mem_singleton] at hq
  subst hq
  exact bn_bent hr
theorem bn_small {w : World} {nb : Bool} {ao : Option Addr} {n ca : Nat} {z : Int} (h : Bn w nb ao n ca z) (hz : z.natAbs < 4294967296) : Bg w nb ao n ca z := by
  have := (limbs_len_le z.natAbs 1).2 (by omega)
  rw [h.sl.len] at this
  exact h.bg (by omega)
theorem mod_abs {x p : Int} (h0 : 0 < p) (hp : p ≤ 2147483648) : (x % p).natAbs < 4294967296 := by
  have h1 := Int.emod_nonneg x (show p ≠ 0 by omega)
  have h2 := Int.emod_lt_of_pos x h0
  omega
theorem mod_small {x p : Int} (h0 : 0 < p) (hp : p ≤ 2147483648) : intOut (x % p) = x % p ∧ fitsI (x % p) = true := by
  have h1 := Int.emod_nonneg x (show p ≠ 0 by omega)
  have h2 := Int.emod_lt_of_pos x h0
  have := fits_yes (x := x % p) (by omega)
  exact ⟨this.2, this.1⟩
end Go.Proofs.YthicfkeiggcjjaaGreatDoor

namespace Go.Proofs.YthicfkeiggcjjaaGreatDoor
open Go Go.RowKit

set_option maxRecDepth 100000 in
set_option maxHeartbeats 4000000 in
theorem remainder_any (pn : Bool) (po : Option Addr) (pk pc : Nat) (x p : Int) (w : World) (ha : Bg w pn po pk pc x) (hn : pk ≤ 100000000) (h0 : 0 < p) (hp : p ≤ 2147483648) :
    Calls Tryz.prog 67 #[.agg #[.bool pn, .slice po pk pc], .int .i64 p] w fun e w' => e = .returned (.int .i64 (x % p)) ∧ Ext w w' := by
  obtain ⟨z, hz⟩ : ∃ z, x % p = z := ⟨_, rfl⟩
  have HM := Lib.hid (mod_small (x := x) h0 hp)
  have HZ := Lib.hid (mod_abs (x := x) h0 hp)
  rw [hz] at HM HZ
  rw [hz]
  go_enter Tryz.func67, Tryz.ntmps67
  go_upto_region 1 with fail
  obtain ⟨W, hW, hB, hx, _⟩ := box_new w pn po pk pc
  rw [← hW]
  clear hW
  have ha := ha.below hB
  generalize hBe : w.heap.size = B at *
  have HBe := Lib.hid hBe
  have HB := Lib.hid hB
  have CF := Lib.hid (fun W' L' (h : RSt W W' L') => fromInt_ent p h (by omega))
  have CD := Lib.hid (fun W' fn fo fk fc (h : RSt W W' [bent (.agg #[.bool fn, .slice fo fk fc]) p]) => divMod_ent pn po pk pc x p fn fo fk fc h (ha.below h.ext) hn h0 hp)
  rw [hz] at CD
  have hcells : ∀ wx, Ext W wx → wx.cell? ⟨B, 0, none⟩ = some (.bool pn) ∧ wx.cell? ⟨B, 1, none⟩ = some (.slice po pk pc) := fun wx h => ⟨(hx.below h).c0, (hx.below h).c1⟩
  have HC := Lib.hid hcells; clear hcells hz
  obtain ⟨p0, p1⟩ := HC.out W (Ext.refl W)
  have hst : RSt W W [] := ⟨Ext.refl W, fun p hp => by cases hp⟩
  have std := hst.drew
  clear hx ha hBe hB hn h0 hp
  go_cut [5, 6, 7] from 10 (fun _ p e wx => ∃ g yn yo yk yc, p = .pointer (some ⟨g, 0, none⟩) ∧ e = .int .i64 0 ∧ Box wx g yn yo yk yc ∧ RSt W wx [bent (.agg #[.bool yn, .slice yo yk yc]) z] ∧ True)
  case first =>
    first | (go_region_held3 (fun wx => (wx.cell? ⟨B, 0, none⟩ = some (.bool pn) ∧ wx.cell? ⟨B, 1, none⟩ = some (.slice po pk pc)))
      ((first | ((repeat (first | with_reducible refine bcells_drew ?_ | with_reducible refine bcells_alloc ?_ | with_reducible refine bcells_stored (by omega) ?_)); exact (HC.out _ (by first | with_reducible exact Ext.refl _ | with_reducible exact RSt.ext (W := W) (by with_reducible assumption))))))
      (first
        | (go_at_call 45; refine (CF.out _ _ (by first | with_reducible assumption | with_reducible exact RSt.drew (by with_reducible assumption) | with_reducible exact RSt.alloc (by with_reducible assumption) _ | with_reducible exact RSt.alloc (RSt.alloc (by with_reducible assumption) _) _ | with_reducible exact RSt.drew (RSt.alloc (by with_reducible assumption) _) | with_reducible exact RSt.drew (RSt.alloc (RSt.alloc (by with_reducible assumption) _) _))).mono ?_; rintro e wn ⟨fn, fo, fk, fc, rfl, hE1, stn⟩; have sz1 := sizeB stn.ext; (first | (have y12 := bbox_in2d (w := W) (wn := wn) (by with_reducible assumption); have y1 : Box wn W.heap.size false none 0 0 := y12.1; have y2 : Box wn (W.heap.size + 1) false none 0 0 := y12.2; clear y12; have yl1 := y1.lt; have yl2 := y2.lt) | (have y12 := bbox_in1d (w := W) (wn := wn) (by with_reducible assumption); have y1 : Box wn W.heap.size false none 0 0 := y12; clear y12; have yl1 := y1.lt) | skip))
        | (go_at_call 84; refine (CD.out _ _ _ _ _ (by first | with_reducible assumption | with_reducible exact RSt.drew (by with_reducible assumption) | with_reducible exact RSt.alloc (by with_reducible assumption) _ | with_reducible exact RSt.alloc (RSt.alloc (by with_reducible assumption) _) _ | with_reducible exact RSt.drew (RSt.alloc (by with_reducible assumption) _) | with_reducible exact RSt.drew (RSt.alloc (RSt.alloc (by with_reducible assumption) _) _))).mono ?_; rintro e wm ⟨xn, xo, xk, xc, yn, yo, yk, yc, rfl, hE2, stm⟩; have sz2 := sizeB stm.ext; (first | (obtain ⟨z1, z2⟩ := bbox_in2 (w := wn) (wn := wm) (by with_reducible assumption); have zl1 := z1.lt; have zl2 := z2.lt; have hE3 : Ext wn wm := Ext.trans (Ext.trans (ext_allocB _ _) (ext_allocB _ _)) hE2) | (have z1 := bbox_in1 (w := wn) (wn := wm) (by with_reducible assumption); have zl1 := z1.lt; have hE3 : Ext wn wm := Ext.trans (ext_allocB _ _) hE2) | (have hE3 : Ext wn wm := hE2)); (first | (have y2 := y2.below hE3; have ym2 := y2.lt; have v0 := y2.c0; have v1 := y2.c1; have v2 := y2.f 0; have v3 := y2.f 1) | skip); (first | (have y1 := y1.below hE3; have ym1 := y1.lt; have u0 := y1.c0; have u1 := y1.c1; have u2 := y1.f 0; have u3 := y1.f 1) | skip); (first | (have s0 := z1.c0; have s1 := z1.c1; have s2 := z1.f 0; have s3 := z1.f 1) | skip); (first | (have t0 := z2.c0; have t1 := z2.c1; have t2 := z2.f 0; have t3 := z2.f 1) | skip)))) | fail "no walk"
    all_goals
      try clear u0 u1 u2 u3
      try clear v0 v1 v2 v3
      try clear s0 s1 s2 s3
      try clear t0 t1 t2 t3
      go_wp2
      go_meet
    all_goals
      refine ⟨_, yn, yo, yk, yc, rfl, rfl, ?_⟩
      first
        | (have _t := y2; first | (have F := bpair_stored (xn := xn) (xo := xo) (xk := xk) (xc := xc) (yn := yn) (yo := yo) (yk := yk) (yc := yc) y1 y2 (by omega) stm (by omega) (by omega); with_reducible exact ⟨F.2.1, F.2.2, trivial⟩) | (have F := bpair_stored (xn := xn) (xo := xo) (xk := xk) (xc := xc) (yn := yn) (yo := yo) (yk := yk) (yc := yc) y2 y1 (by omega) stm (by omega) (by omega); with_reducible exact ⟨F.2.1, F.2.2, trivial⟩))
        | (have _t := z2; first | (have F := bpair_stored (xn := xn) (xo := xo) (xk := xk) (xc := xc) (yn := yn) (yo := yo) (yk := yk) (yc := yc) z1 z2 (by omega) stm (by omega) (by omega); with_reducible exact ⟨F.2.1, F.2.2, trivial⟩) | (have F := bpair_stored (xn := xn) (xo := xo) (xk := xk) (xc := xc) (yn := yn) (yo := yo) (yk := yk) (yc := yc) z2 z1 (by omega) stm (by omega) (by omega); with_reducible exact ⟨F.2.1, F.2.2, trivial⟩))
        | (have _t := y1; have _t2 := z1; first | (have F := bpair_stored (xn := xn) (xo := xo) (xk := xk) (xc := xc) (yn := yn) (yo := yo) (yk := yk) (yc := yc) y1 z1 (by omega) stm (by omega) (by omega); with_reducible exact ⟨F.2.1, F.2.2, trivial⟩) | (have F := bpair_stored (xn := xn) (xo := xo) (xk := xk) (xc := xc) (yn := yn) (yo := yo) (yk := yk) (yc := yc) z1 y1 (by omega) stm (by omega) (by omega); with_reducible exact ⟨F.2.1, F.2.2, trivial⟩))
        | (have _t := y1; first | (have F := bfin_mix (xn := xn) (xo := xo) (xk := xk) (xc := xc) (yn := yn) (yo := yo) (yk := yk) (yc := yc) stm y1 (by omega); with_reducible exact ⟨F.2.1, F.2.2, trivial⟩) | (have F := bfin_mix (xn := yn) (xo := yo) (xk := yk) (xc := yc) (yn := xn) (yo := xo) (yk := xk) (yc := xc) stm y1 (by omega); with_reducible exact ⟨F.1, F.2.2, trivial⟩))
        | (have _t := z1; first | (have F := bfin_mix (xn := xn) (xo := xo) (xk := xk) (xc := xc) (yn := yn) (yo := yo) (yk := yk) (yc := yc) stm z1 (by omega); with_reducible exact ⟨F.2.1, F.2.2, trivial⟩) | (have F := bfin_mix (xn := yn) (xo := yo) (xk := yk) (xc := yc) (yn := xn) (yo := xo) (yk := xk) (yc := xc) stm z1 (by omega); with_reducible exact ⟨F.1, F.2.2, trivial⟩))
        | (have F := bfin_new (xn := xn) (xo := xo) (xk := xk) (xc := xc) (yn := yn) (yo := yo) (yk := yk) (yc := yc) stm; with_reducible exact ⟨F.2.1, F.2.2, trivial⟩)
        | (have F := bfin_new (xn := yn) (xo := yo) (xk := yk) (xc := yc) (yn := xn) (yo := xo) (yk := xk) (yc := xc) stm; with_reducible exact ⟨F.1, F.2.2, trivial⟩)
  case rest =>
    obtain ⟨g, yn, yo, yk, yc, rfl, rfl, hy, hst2, -⟩ := hcut
    have hb := bent_bn (hst2.bag _ (List.Mem.head _))
    have hE2 := hst2.ext
    have HE := Lib.hid (show Ext w wc from by have h1 := HB.out; rw [← HBe.out] at h1; exact Ext.trans h1 hE2)
    have CI := Lib.hid (int_any yn yo yk yc z wc (bn_small hb HZ.out))
    rw [HM.out.1, HM.out.2] at CI
    have y0 := hy.c0
    have y1 := hy.c1
    clear hst std hst2 CF CD HC HB p0 p1 hy hb hE2 HM
    go_wp2_with fail
    refine CI.out.mono ?_
    rintro e w1 ⟨rfl, h1⟩
    have HE1 := Lib.hid (HE.out.trans h1)
    clear y0 y1 h1
    go_wp2
    go_ret
    exact ⟨rfl, HE1.out⟩
end Go.Proofs.YthicfkeiggcjjaaGreatDoor
