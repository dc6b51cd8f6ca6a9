import Derived.Test.YtlpclahlolhjfaaGreatDoorMoRlU24
import Derived.Test.YtlpclahlolhjfaaGreatDoorMoRlU25
import Derived.Test.YtlpclahlolhjfaaGreatDoorMoRlU26
import Derived.Test.YtlpclahlolhjfaaGreatDoorMoRlU27
import Derived.Test.YtlpclahlolhjfaaGreatDoorMoRlU21
import Derived.Test.YtlpclahlolhjfaaGreatDoorMoRlU9
import Derived.Test.YtlpclahlolhjfaaGreatDoorMoRlU16
import Derived.Test.YtlpclahlolhjfaaGreatDoorMoRlU5
namespace Go.Proofs.YtlpclahlolhjfaaGreatDoor
open Go Go.RowKit

theorem dm_n {a b : Nat} (h0 : b ≠ 0) (h : a % b = 0) : -(a : Int) / (b : Int) = -((a / b : Nat) : Int) ∧ -(a : Int) % (b : Int) = 0 := by
  refine (Int.ediv_emod_unique (by omega)).2 ⟨?_, by omega, by omega⟩
  have := Nat.div_add_mod a b
  have e : (a : Int) = b * (a / b : Nat) := by rw [← Int.natCast_mul]; omega
  rw [Int.mul_neg]
  omega
theorem dm_nA {a b : Nat} (h0 : b ≠ 0) (h : a % b ≠ 0) : -(a : Int) / (b : Int) = -((a / b : Nat) : Int) - 1 ∧ -(a : Int) % (b : Int) = -((a % b : Nat) : Int) + (b : Int) := by
  have hl := Nat.mod_lt a (Nat.pos_of_ne_zero h0)
  refine (Int.ediv_emod_unique (by omega)).2 ⟨?_, by omega, by omega⟩
  have := Nat.div_add_mod a b
  have e : (a : Int) = b * (a / b : Nat) + (a % b : Nat) := by rw [← Int.natCast_mul, ← Int.natCast_add, this]
  rw [Int.mul_sub, Int.mul_neg, Int.mul_one]
  omega
/-- quotient and remainder of any integers -/
theorem refDivMod_any (nb mb : Bool) (ao : Option Addr) (n ca : Nat) (bo : Option Addr) (m cb : Nat) (x y : Int) (w : World) (ha : Bg w nb ao n ca x) (hb : Bg w mb bo m cb y) (hy0 : y ≠ 0) (hn : n ≤ 100000000) :
    Calls Tryz.prog 48 #[.agg #[.bool nb, .slice ao n ca], .agg #[.bool mb, .slice bo m cb]] w fun e w' => ∃ qn qo qk qc rn ro rk rc, e = .returned (.tuple #[.agg #[.bool qn, .slice qo qk qc], .agg #[.bool rn, .slice ro rk rc]]) ∧
      Bn w' qn qo qk qc (x / y) ∧ Bn w' rn ro rk rc (x % y) ∧ Ext w w' := by
  by_cases hx : x < 0
  · obtain ⟨a, rfl⟩ : ∃ a : Nat, x = -(a : Int) := ⟨x.natAbs, by omega⟩
    have h1 : a ≠ 0 := by omega
    by_cases hy : y < 0
    · obtain ⟨b, rfl⟩ : ∃ b : Nat, y = -(b : Int) := ⟨y.natAbs, by omega⟩
      have h0 : b ≠ 0 := by omega
      rw [Int.ediv_neg, Int.emod_neg]
      by_cases h : a % b = 0
      · obtain ⟨e1, e2⟩ := dm_n h0 h
        rw [e1, e2, Int.neg_neg]
        exact refDivMod_nn a b nb mb ao bo n m ca cb w ha hb hn h0 h1 h
      · obtain ⟨e1, e2⟩ := dm_nA h0 h
        rw [e1, e2, show -(-((a / b : Nat) : Int) - 1) = ((a / b : Nat) : Int) + 1 by omega]
        exact refDivMod_nnA a b nb mb ao bo n m ca cb w ha hb hn h0 h1 h
    · obtain ⟨b, rfl⟩ := Int.eq_ofNat_of_zero_le (Int.not_lt.1 hy)
      have h0 : b ≠ 0 := by omega
      by_cases h : a % b = 0
      · obtain ⟨e1, e2⟩ := dm_n h0 h
        rw [e1, e2]
        exact refDivMod_np a b nb mb ao bo n m ca cb w ha hb hn h0 h1 h
      · obtain ⟨e1, e2⟩ := dm_nA h0 h
        rw [e1, e2]
        exact refDivMod_npA a b nb mb ao bo n m ca cb w ha hb hn h0 h1 h
  · obtain ⟨a, rfl⟩ := Int.eq_ofNat_of_zero_le (Int.not_lt.1 hx)
    by_cases hy : y < 0
    · obtain ⟨b, rfl⟩ : ∃ b : Nat, y = -(b : Int) := ⟨y.natAbs, by omega⟩
      have h0 : b ≠ 0 := by omega
      rw [Int.ediv_neg, Int.emod_neg, ← Int.natCast_ediv, ← Int.natCast_emod]
      exact refDivMod_pn a b nb mb ao bo n m ca cb w ha hb hn h0
    · obtain ⟨b, rfl⟩ := Int.eq_ofNat_of_zero_le (Int.not_lt.1 hy)
      have h0 : b ≠ 0 := by omega
      rw [← Int.natCast_ediv, ← Int.natCast_emod]
      exact refDivMod_pos a b nb mb ao bo n m ca cb w ha hb hn h0
end Go.Proofs.YtlpclahlolhjfaaGreatDoor

namespace Go.Proofs.YtlpclahlolhjfaaGreatDoor
open Go Go.RowKit

/-- an integer as an entry at hand -/
def bent (v : Value) (x : Int) : REnt := ⟨v, decide (x < 0), limbs x.natAbs⟩
theorem bent_bn {w : World} {nb : Bool} {ao : Option Addr} {n ca : Nat} {x : Int} (h : REnt.Ok w (bent (.agg #[.bool nb, .slice ao n ca]) x)) : Bn w nb ao n ca x := by
  obtain ⟨_, _, _, e, hs⟩ := h
  simp only [bent, Value.agg.injEq, Array.mk.injEq, List.cons.injEq, Value.bool.injEq, Value.slice.injEq, and_true] at e
  obtain ⟨rfl, rfl, rfl, rfl⟩ := e
  exact ⟨rfl, hs⟩
theorem bn_bent {w : World} {nb : Bool} {ao : Option Addr} {n ca : Nat} {x : Int} (h : Bn w nb ao n ca x) : REnt.Ok w (bent (.agg #[.bool nb, .slice ao n ca]) x) := by
  have h1 := h.neg
  have h2 := h.sl
  subst h1
  exact ⟨ao, n, ca, rfl, h2⟩
theorem bag_cons {V w w' : World} {L : List REnt} {p : REnt} (h : RSt V w L) (he : Ext w w') (hp : p.Ok w') : RSt V w' (p :: L) := ⟨h.ext.trans he, fun q hq => by
  rcases List.mem_cons.1 hq with rfl | hq
  · exact hp
  · exact (h.bag q hq).ext he⟩
theorem fromInt_ent {V w : World} {L : List REnt} (p : Int) (h : RSt V w L) (h0 : -9223372036854775808 ≤ p ∧ p ≤ 9223372036854775807) :
    Calls Tryz.prog 21 #[.int .i64 p] w fun e w' => ∃ fn fo fk fc, e = .returned (.agg #[.bool fn, .slice fo fk fc]) ∧ Ext w w' ∧ RSt V w' (bent (.agg #[.bool fn, .slice fo fk fc]) p :: L) :=
  (fromInt_any p w h0.1 h0.2).mono fun _ _ ⟨nr, ro, k, cr, he, hn, hw⟩ => ⟨nr, ro, k, cr, he, hw, bag_cons h hw (bn_bent hn)⟩
theorem one_len {p : Int} (h0 : 0 < p) (hp : p ≤ 2147483648) : (limbs p.natAbs).length ≤ 1 := (limbs_len_le _ 1).2 (by omega)
theorem bent_bg {w : World} {nb : Bool} {ao : Option Addr} {n ca : Nat} {p : Int} (h : REnt.Ok w (bent (.agg #[.bool nb, .slice ao n ca]) p)) (h0 : 0 < p) (hp : p ≤ 2147483648) : Bg w nb ao n ca p := by
  have hb := bent_bn h
  have := one_len h0 hp
  rw [hb.sl.len] at this
  exact hb.bg (by omega)
theorem divMod_ent {V w : World} {L : List REnt} (nb : Bool) (ao : Option Addr) (n ca : Nat) (x p : Int) (fn : Bool) (fo : Option Addr) (fk fc : Nat) (h : RSt V w (bent (.agg #[.bool fn, .slice fo fk fc]) p :: L)) (ha : Bg w nb ao n ca x) (hn : n ≤ 100000000) (h0 : 0 < p) (hp : p ≤ 2147483648) :
    Calls Tryz.prog 88 #[.agg #[.bool nb, .slice ao n ca], .agg #[.bool fn, .slice fo fk fc]] w fun e w' => ∃ xn xo xk xc yn yo yk yc, e = .returned (.tuple #[.agg #[.bool xn, .slice xo xk xc], .agg #[.bool yn, .slice yo yk yc], .int .i64 0]) ∧ Ext w w' ∧ RSt V w' [bent (.agg #[.bool yn, .slice yo yk yc]) (x % p)] := by
  have hb := bent_bg (h.bag _ (List.Mem.head _)) h0 hp
  refine (divMod_any nb fn ao n ca fo fk fc x p w ha hb (by omega) hn (div_says _ _ (by omega))).mono fun e w' ⟨xn, xo, xk, xc, yn, yo, yk, yc, he, _, hr, hw⟩ => ⟨xn, xo, xk, xc, yn, yo, yk, yc, he, hw, h.ext.trans hw, fun q hq => ?_⟩
  rw [List.mem_singleton] at hq
  subst hq
  exact bn_bent hr
theorem bn_small {w : World} {nb : Bool} {ao : Option Addr} {n ca : Nat} {z : Int} (h : Bn w nb ao n ca z) (hz : z.natAbs < 4294967296) : Bg w nb ao n ca z := by
  have := (limbs_len_le z.natAbs 1).2 (by omega)
  rw [h.sl.len] at this
  exact h.bg (by omega)
theorem mod_abs {x p : Int} (h0 : 0 < p) (hp : p ≤ 2147483648) : (x % p).natAbs < 4294967296 := by
  have h1 := Int.emod_nonneg x (show p ≠ 0 by omega)
  have h2 := Int.emod_lt_of_pos x h0
  omega
theorem mod_small {x p : Int} (h0 : 0 < p) (hp : p ≤ 2147483648) : intOut (x % p) = x % p ∧ fitsI (x % p) = true := by
  have h1 := Int.emod_nonneg x (show p ≠ 0 by omega)
  have h2 := Int.emod_lt_of_pos x h0
  have := fits_yes (x := x % p) (by omega)
  exact ⟨this.2, this.1⟩
end Go.Proofs.YtlpclahlolhjfaaGreatDoor

namespace Go.Proofs.YtlpclahlolhjfaaGreatDoor
open Go Go.RowKit

set_option maxRecDepth 100000 in
set_option maxHeartbeats 4000000 in
theorem remainder_any (pn : Bool) (po : Option Addr) (pk pc : Nat) (x p : Int) (w : World) (ha : Bg w pn po pk pc x) (hn : pk ≤ 100000000) (h0 : 0 < p) (hp : p ≤ 2147483648) :
    Calls Tryz.prog 71 #[.agg #[.bool pn, .slice po pk pc], .int .i64 p] w fun e w' => e = .returned (.int .i64 (x % p)) ∧ Ext w w' := by
  obtain ⟨z, hz⟩ : ∃ z, x % p = z := ⟨_, rfl⟩
  have HM := Lib.hid (mod_small (x := x) h0 hp)
  have HZ := Lib.hid (mod_abs (x := x) h0 hp)
  rw [hz] at HM HZ
  rw [hz]
  go_enter Tryz.func71, Tryz.ntmps71
  go_upto_region 1 with fail
  obtain ⟨W, hW, hB, hx, _⟩ := box_new w pn po pk pc
  rw [← hW]
  clear hW
  have ha := ha.below hB
  generalize hBe : w.heap.size = B at *
  have HBe := Lib.hid hBe
  have HB := Lib.hid hB
  have CF := Lib.hid (fun W' L' (h : RSt W W' L') => fromInt_ent p h (by omega))
  have CD := Lib.hid (fun W' fn fo fk fc (h : RSt W W' [bent (.agg #[.bool fn, .slice fo fk fc]) p]) => divMod_ent pn po pk pc x p fn fo fk fc h (ha.below h.ext) hn h0 hp)
  rw [hz] at CD
  have hcells : ∀ wx, Ext W wx → wx.cell? ⟨B, 0, none⟩ = some (.bool pn) ∧ wx.cell? ⟨B, 1, none⟩ = some (.slice po pk pc) := fun wx h => ⟨(hx.below h).c0, (hx.below h).c1⟩
  have HC := Lib.hid hcells; clear hcells hz
  obtain ⟨p0, p1⟩ := HC.out W (Ext.refl W)
  have hst : RSt W W [] := ⟨Ext.refl W, fun p hp => by cases hp⟩
  have std := hst.drew
  clear hx ha hBe hB hn h0 hp
  go_cut [5, 6, 7] from 10 (fun _ p e wx => ∃ g yn yo yk yc, p = .pointer (some ⟨g, 0, none⟩) ∧ e = .int .i64 0 ∧ Box wx g yn yo yk yc ∧ RSt W wx [bent (.agg #[.bool yn, .slice yo yk yc]) z] ∧ True)
  case first =>
    first | (go_region_held3 (fun wx => (wx.cell? ⟨B, 0, none⟩ = some (.bool pn) ∧ wx.cell? ⟨B, 1, none⟩ = some (.slice po pk pc)))
      ((first | ((repeat (first | with_reducible refine bcells_drew ?_ | with_reducible refine bcells_alloc ?_ | with_reducible refine bcells_stored (by omega) ?_)); exact (HC.out _ (by first | with_reducible exact Ext.refl _ | with_reducible exact RSt.ext (W := W) (by with_reducible assumption))))))
      (first
        | (go_at_call 21; refine (CF.out _ _ (by first | with_reducible assumption | with_reducible exact RSt.drew (by with_reducible assumption) | with_reducible exact RSt.alloc (by with_reducible assumption) _ | with_reducible exact RSt.alloc (RSt.alloc (by with_reducible assumption) _) _ | with_reducible exact RSt.drew (RSt.alloc (by with_reducible assumption) _) | with_reducible exact RSt.drew (RSt.alloc (RSt.alloc (by with_reducible assumption) _) _))).mono ?_; rintro e wn ⟨fn, fo, fk, fc, rfl, hE1, stn⟩; have sz1 := sizeB stn.ext; (first | (have y12 := bbox_in2d (w := W) (wn := wn) (by with_reducible assumption); have y1 : Box wn W.heap.size false none 0 0 := y12.1; have y2 : Box wn (W.heap.size + 1) false none 0 0 := y12.2; clear y12; have yl1 := y1.lt; have yl2 := y2.lt) | (have y12 := bbox_in1d (w := W) (wn := wn) (by with_reducible assumption); have y1 : Box wn W.heap.size false none 0 0 := y12; clear y12; have yl1 := y1.lt) | skip))
        | (go_at_call 88; refine (CD.out _ _ _ _ _ (by first | with_reducible assumption | with_reducible exact RSt.drew (by with_reducible assumption) | with_reducible exact RSt.alloc (by with_reducible assumption) _ | with_reducible exact RSt.alloc (RSt.alloc (by with_reducible assumption) _) _ | with_reducible exact RSt.drew (RSt.alloc (by with_reducible assumption) _) | with_reducible exact RSt.drew (RSt.alloc (RSt.alloc (by with_reducible assumption) _) _))).mono ?_; rintro e wm ⟨xn, xo, xk, xc, yn, yo, yk, yc, rfl, hE2, stm⟩; have sz2 := sizeB stm.ext; (first | (obtain ⟨z1, z2⟩ := bbox_in2 (w := wn) (wn := wm) (by with_reducible assumption); have zl1 := z1.lt; have zl2 := z2.lt; have hE3 : Ext wn wm := Ext.trans (Ext.trans (ext_allocB _ _) (ext_allocB _ _)) hE2) | (have z1 := bbox_in1 (w := wn) (wn := wm) (by with_reducible assumption); have zl1 := z1.lt; have hE3 : Ext wn wm := Ext.trans (ext_allocB _ _) hE2) | (have hE3 : Ext wn wm := hE2)); (first | (have y2 := y2.below hE3; have ym2 := y2.lt; have v0 := y2.c0; have v1 := y2.c1; have v2 := y2.f 0; have v3 := y2.f 1) | skip); (first | (have y1 := y1.below hE3; have ym1 := y1.lt; have u0 := y1.c0; have u1 := y1.c1; have u2 := y1.f 0; have u3 := y1.f 1) | skip); (first | (have s0 := z1.c0; have s1 := z1.c1; have s2 := z1.f 0; have s3 := z1.f 1) | skip); (first | (have t0 := z2.c0; have t1 := z2.c1; have t2 := z2.f 0; have t3 := z2.f 1) | skip)))) | fail "no walk"
    all_goals
      try clear u0 u1 u2 u3
      try clear v0 v1 v2 v3
      try clear s0 s1 s2 s3
      try clear t0 t1 t2 t3
      go_wp2
      go_meet
    all_goals
      refine ⟨_, yn, yo, yk, yc, rfl, rfl, ?_⟩
      first
        | (have _t := y2; first | (have F := bpair_stored (xn := xn) (xo := xo) (xk := xk) (xc := xc) (yn := yn) (yo := yo) (yk := yk) (yc := yc) y1 y2 (by omega) stm (by omega) (by omega); with_reducible exact ⟨F.2.1, F.2.2, trivial⟩) | (have F := bpair_stored (xn := xn) (xo := xo) (xk := xk) (xc := xc) (yn := yn) (yo := yo) (yk := yk) (yc := yc) y2 y1 (by omega) stm (by omega) (by omega); with_reducible exact ⟨F.2.1, F.2.2, trivial⟩))
        | (have _t := z2; first | (have F := bpair_stored (xn := xn) (xo := xo) (xk := xk) (xc := xc) (yn := yn) (yo := yo) (yk := yk) (yc := yc) z1 z2 (by omega) stm (by omega) (by omega); with_reducible exact ⟨F.2.1, F.2.2, trivial⟩) | (have F := bpair_stored (xn := xn) (xo := xo) (xk := xk) (xc := xc) (yn := yn) (yo := yo) (yk := yk) (yc := yc) z2 z1 (by omega) stm (by omega) (by omega); with_reducible exact ⟨F.2.1, F.2.2, trivial⟩))
        | (have _t := y1; have _t2 := z1; first | (have F := bpair_stored (xn := xn) (xo := xo) (xk := xk) (xc := xc) (yn := yn) (yo := yo) (yk := yk) (yc := yc) y1 z1 (by omega) stm (by omega) (by omega); with_reducible exact ⟨F.2.1, F.2.2, trivial⟩) | (have F := bpair_stored (xn := xn) (xo := xo) (xk := xk) (xc := xc) (yn := yn) (yo := yo) (yk := yk) (yc := yc) z1 y1 (by omega) stm (by omega) (by omega); with_reducible exact ⟨F.2.1, F.2.2, trivial⟩))
        | (have _t := y1; first | (have F := bfin_mix (xn := xn) (xo := xo) (xk := xk) (xc := xc) (yn := yn) (yo := yo) (yk := yk) (yc := yc) stm y1 (by omega); with_reducible exact ⟨F.2.1, F.2.2, trivial⟩) | (have F := bfin_mix (xn := yn) (xo := yo) (xk := yk) (xc := yc) (yn := xn) (yo := xo) (yk := xk) (yc := xc) stm y1 (by omega); with_reducible exact ⟨F.1, F.2.2, trivial⟩))
        | (have _t := z1; first | (have F := bfin_mix (xn := xn) (xo := xo) (xk := xk) (xc := xc) (yn := yn) (yo := yo) (yk := yk) (yc := yc) stm z1 (by omega); with_reducible exact ⟨F.2.1, F.2.2, trivial⟩) | (have F := bfin_mix (xn := yn) (xo := yo) (xk := yk) (xc := yc) (yn := xn) (yo := xo) (yk := xk) (yc := xc) stm z1 (by omega); with_reducible exact ⟨F.1, F.2.2, trivial⟩))
        | (have F := bfin_new (xn := xn) (xo := xo) (xk := xk) (xc := xc) (yn := yn) (yo := yo) (yk := yk) (yc := yc) stm; with_reducible exact ⟨F.2.1, F.2.2, trivial⟩)
        | (have F := bfin_new (xn := yn) (xo := yo) (xk := yk) (xc := yc) (yn := xn) (yo := xo) (yk := xk) (yc := xc) stm; with_reducible exact ⟨F.1, F.2.2, trivial⟩)
  case rest =>
    obtain ⟨g, yn, yo, yk, yc, rfl, rfl, hy, hst2, -⟩ := hcut
    have hb := bent_bn (hst2.bag _ (List.Mem.head _))
    have hE2 := hst2.ext
    have HE := Lib.hid (show Ext w wc from by have h1 := HB.out; rw [← HBe.out] at h1; exact Ext.trans h1 hE2)
    have CI := Lib.hid (int_any yn yo yk yc z wc (bn_small hb HZ.out))
    rw [HM.out.1, HM.out.2] at CI
    have y0 := hy.c0
    have y1 := hy.c1
    clear hst std hst2 CF CD HC HB p0 p1 hy hb hE2 HM
    go_wp2_with fail
    refine CI.out.mono ?_
    rintro e w1 ⟨rfl, h1⟩
    have HE1 := Lib.hid (HE.out.trans h1)
    clear y0 y1 h1
    go_wp2
    go_ret
    exact ⟨rfl, HE1.out⟩
end Go.Proofs.YtlpclahlolhjfaaGreatDoor

namespace Go.Proofs.YtlpclahlolhjfaaGreatDoor
open Go Go.RowKit

def invZ (a p : Int) : Int := ((powm a.toNat (p - 2).toNat p.toNat : Nat) : Int)
theorem mr_bounds {p : Int} (h : mr p = true) : 2 ≤ p ∧ p ≤ 2147483647 := by
  unfold mr at h
  rw [Bool.and_eq_true] at h
  exact of_decide_eq_true h.1
theorem invZ_lt {a p : Int} (hp : 0 < p) : 0 ≤ invZ a p ∧ invZ a p < p := by
  have := powm_lt (a := a.toNat) (n := (p - 2).toNat) (p := p.toNat) (by omega)
  unfold invZ
  omega
theorem inverseZ (a p : Int) (w : World) (h0 : 0 ≤ a) (h1 : a < p) (hp1 : 1 < p) (hp : p ≤ 2147483647) :
    Calls Tryz.prog 54 #[.int .i64 a, .int .i64 p] w fun e w' => e = .returned (.int .i64 (invZ a p)) ∧ w = w' := by
  obtain ⟨x, rfl⟩ := Int.eq_ofNat_of_zero_le h0
  obtain ⟨q, rfl⟩ := Int.eq_ofNat_of_zero_le (show 0 ≤ p by omega)
  have := inverse_any x q w (by omega) (by omega) (by omega)
  rw [show invZ (x : Int) (q : Int) = ((powm x (q - 2) q : Nat) : Int) by unfold invZ; rw [show ((q : Int) - 2).toNat = q - 2 by omega]; rfl]
  exact this
set_option maxRecDepth 100000 in
set_option maxHeartbeats 1000000 in
theorem inv_yes (a p : Int) (w : World) (hT : Table64 w) (hp : mr p = true) (h0 : a % p ≠ 0) :
    Calls Tryz.prog 19 #[.int .i64 a, .int .i64 p] w fun e w' => e = .returned (.tuple #[.int .i64 (invZ (a % p) p), .int .i64 0]) ∧ w = w' := by
  obtain ⟨p2, p3⟩ := mr_bounds hp
  have CI := Lib.hid (isPrime_any p w hT)
  rw [hp] at CI
  have CR := Lib.hid (residue_any a p w (by omega) (by omega))
  have CV := Lib.hid (inverseZ (a % p) p w (Int.emod_nonneg a (by omega)) (Int.emod_lt_of_pos a (by omega)) (by omega) p3)
  obtain ⟨z, hz⟩ : ∃ z, a % p = z := ⟨_, rfl⟩
  rw [hz] at CR CV h0
  rw [hz]
  clear hp hT hz
  go_enter Tryz.func19, Tryz.ntmps19
  go_wp2_with fail
  refine CI.out.mono ?_
  rintro e w1 ⟨rfl, rfl⟩
  clear CI
  go_wp2_with fail
  refine CR.out.mono ?_
  rintro e w1 ⟨rfl, rfl⟩
  clear CR
  go_wp2_with fail
  refine CV.out.mono ?_
  rintro e w1 ⟨rfl, rfl⟩
  clear CV
  go_wp2
  go_ret2
  exact ⟨rfl, rfl⟩

end Go.Proofs.YtlpclahlolhjfaaGreatDoor
