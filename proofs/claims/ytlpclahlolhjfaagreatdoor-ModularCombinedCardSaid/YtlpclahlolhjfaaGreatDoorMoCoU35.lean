import Derived.Test.YtlpclahlolhjfaaGreatDoorMoCoU34
import Derived.Test.YtlpclahlolhjfaaGreatDoorMoCoU18
import Derived.Test.YtlpclahlolhjfaaGreatDoorMoCoU19
import Derived.Test.YtlpclahlolhjfaaGreatDoorMoCoU17
import Derived.Test.YtlpclahlolhjfaaGreatDoorMoCoU7
namespace Go.Proofs.YtlpclahlolhjfaaGreatDoor
open Go Go.RowKit

set_option maxRecDepth 100000 in
set_option maxHeartbeats 4000000 in
theorem refReduce_any (pn : Bool) (po : Option Addr) (pk pc : Nat) (x p : Int) (w : World) (ha : Bg w pn po pk pc x) (hn : pk ≤ 100000000) (h0 : 0 < p) (hp : p ≤ 2147483648) :
    Calls Tryz.prog 33 #[.agg #[.bool pn, .slice po pk pc], .int .i64 p] w fun e w' => e = .returned (.int .i64 (x % p)) ∧ Ext w w' := by
  obtain ⟨z, hz⟩ : ∃ z, x % p = z := ⟨_, rfl⟩
  have HM := Lib.hid (mod_small (x := x) h0 hp)
  have HZ := Lib.hid (mod_abs (x := x) h0 hp)
  rw [hz] at HM HZ
  rw [hz]
  go_enter Tryz.func33, Tryz.ntmps33
  go_upto_region 1 with fail
  obtain ⟨W, hW, hB, hx, _⟩ := box_new w pn po pk pc
  rw [← hW]
  clear hW
  have ha := ha.below hB
  generalize hBe : w.heap.size = B at *
  have HBe := Lib.hid hBe
  have HB := Lib.hid hB
  have CF := Lib.hid (fun W' L' (h : RSt W W' L') => refFromInt_ent p h (by omega))
  have CD := Lib.hid (fun W' fn fo fk fc (h : RSt W W' [bent (.agg #[.bool fn, .slice fo fk fc]) p]) => refDivMod_ent pn po pk pc x p fn fo fk fc h (ha.below h.ext) hn h0 hp)
  rw [hz] at CD
  have hcells : ∀ wx, Ext W wx → wx.cell? ⟨B, 0, none⟩ = some (.bool pn) ∧ wx.cell? ⟨B, 1, none⟩ = some (.slice po pk pc) := fun wx h => ⟨(hx.below h).c0, (hx.below h).c1⟩
  have HC := Lib.hid hcells; clear hcells hz
  obtain ⟨p0, p1⟩ := HC.out W (Ext.refl W)
  have hst : RSt W W [] := ⟨Ext.refl W, fun p hp => by cases hp⟩
  have std := hst.drew
  clear hx ha hBe hB hn h0 hp
  go_cut [5, 6] from 9 (fun _ p wx => ∃ g yn yo yk yc, p = .pointer (some ⟨g, 0, none⟩) ∧ Box wx g yn yo yk yc ∧ RSt W wx [bent (.agg #[.bool yn, .slice yo yk yc]) z] ∧ True)
  case first =>
    first | (go_region_held3 (fun wx => (wx.cell? ⟨B, 0, none⟩ = some (.bool pn) ∧ wx.cell? ⟨B, 1, none⟩ = some (.slice po pk pc)))
      ((first | ((repeat (first | with_reducible refine bcells_drew ?_ | with_reducible refine bcells_alloc ?_ | with_reducible refine bcells_stored (by omega) ?_)); exact (HC.out _ (by first | with_reducible exact Ext.refl _ | with_reducible exact RSt.ext (W := W) (by with_reducible assumption))))))
      (first
        | (go_at_call 18; refine (CF.out _ _ (by first | with_reducible assumption | with_reducible exact RSt.drew (by with_reducible assumption) | with_reducible exact RSt.alloc (by with_reducible assumption) _ | with_reducible exact RSt.alloc (RSt.alloc (by with_reducible assumption) _) _ | with_reducible exact RSt.drew (RSt.alloc (by with_reducible assumption) _) | with_reducible exact RSt.drew (RSt.alloc (RSt.alloc (by with_reducible assumption) _) _))).mono ?_; rintro e wn ⟨fn, fo, fk, fc, rfl, hE1, stn⟩; have sz1 := sizeB stn.ext; (first | (have y12 := bbox_in2d (w := W) (wn := wn) (by with_reducible assumption); have y1 : Box wn W.heap.size false none 0 0 := y12.1; have y2 : Box wn (W.heap.size + 1) false none 0 0 := y12.2; clear y12; have yl1 := y1.lt; have yl2 := y2.lt) | (have y12 := bbox_in1d (w := W) (wn := wn) (by with_reducible assumption); have y1 : Box wn W.heap.size false none 0 0 := y12; clear y12; have yl1 := y1.lt) | skip))
        | (go_at_call 48; refine (CD.out _ _ _ _ _ (by first | with_reducible assumption | with_reducible exact RSt.drew (by with_reducible assumption) | with_reducible exact RSt.alloc (by with_reducible assumption) _ | with_reducible exact RSt.alloc (RSt.alloc (by with_reducible assumption) _) _ | with_reducible exact RSt.drew (RSt.alloc (by with_reducible assumption) _) | with_reducible exact RSt.drew (RSt.alloc (RSt.alloc (by with_reducible assumption) _) _))).mono ?_; rintro e wm ⟨xn, xo, xk, xc, yn, yo, yk, yc, rfl, hE2, stm⟩; have sz2 := sizeB stm.ext; (first | (obtain ⟨z1, z2⟩ := bbox_in2 (w := wn) (wn := wm) (by with_reducible assumption); have zl1 := z1.lt; have zl2 := z2.lt; have hE3 : Ext wn wm := Ext.trans (Ext.trans (ext_allocB _ _) (ext_allocB _ _)) hE2) | (have z1 := bbox_in1 (w := wn) (wn := wm) (by with_reducible assumption); have zl1 := z1.lt; have hE3 : Ext wn wm := Ext.trans (ext_allocB _ _) hE2) | (have hE3 : Ext wn wm := hE2)); (first | (have y2 := y2.below hE3; have ym2 := y2.lt; have v0 := y2.c0; have v1 := y2.c1; have v2 := y2.f 0; have v3 := y2.f 1) | skip); (first | (have y1 := y1.below hE3; have ym1 := y1.lt; have u0 := y1.c0; have u1 := y1.c1; have u2 := y1.f 0; have u3 := y1.f 1) | skip); (first | (have s0 := z1.c0; have s1 := z1.c1; have s2 := z1.f 0; have s3 := z1.f 1) | skip); (first | (have t0 := z2.c0; have t1 := z2.c1; have t2 := z2.f 0; have t3 := z2.f 1) | skip)))) | fail "no walk"
    all_goals
      try clear u0 u1 u2 u3
      try clear v0 v1 v2 v3
      try clear s0 s1 s2 s3
      try clear t0 t1 t2 t3
      go_wp2
      go_meet
    all_goals
      refine ⟨_, yn, yo, yk, yc, rfl, ?_⟩
      first
        | (have _t := y2; first | (have F := bpair_stored (xn := xn) (xo := xo) (xk := xk) (xc := xc) (yn := yn) (yo := yo) (yk := yk) (yc := yc) y1 y2 (by omega) stm (by omega) (by omega); with_reducible exact ⟨F.2.1, F.2.2, trivial⟩) | (have F := bpair_stored (xn := xn) (xo := xo) (xk := xk) (xc := xc) (yn := yn) (yo := yo) (yk := yk) (yc := yc) y2 y1 (by omega) stm (by omega) (by omega); with_reducible exact ⟨F.2.1, F.2.2, trivial⟩))
        | (have _t := z2; first | (have F := bpair_stored (xn := xn) (xo := xo) (xk := xk) (xc := xc) (yn := yn) (yo := yo) (yk := yk) (yc := yc) z1 z2 (by omega) stm (by omega) (by omega); with_reducible exact ⟨F.2.1, F.2.2, trivial⟩) | (have F := bpair_stored (xn := xn) (xo := xo) (xk := xk) (xc := xc) (yn := yn) (yo := yo) (yk := yk) (yc := yc) z2 z1 (by omega) stm (by omega) (by omega); with_reducible exact ⟨F.2.1, F.2.2, trivial⟩))
        | (have _t := y1; have _t2 := z1; first | (have F := bpair_stored (xn := xn) (xo := xo) (xk := xk) (xc := xc) (yn := yn) (yo := yo) (yk := yk) (yc := yc) y1 z1 (by omega) stm (by omega) (by omega); with_reducible exact ⟨F.2.1, F.2.2, trivial⟩) | (have F := bpair_stored (xn := xn) (xo := xo) (xk := xk) (xc := xc) (yn := yn) (yo := yo) (yk := yk) (yc := yc) z1 y1 (by omega) stm (by omega) (by omega); with_reducible exact ⟨F.2.1, F.2.2, trivial⟩))
        | (have _t := y1; first | (have F := bfin_mix (xn := xn) (xo := xo) (xk := xk) (xc := xc) (yn := yn) (yo := yo) (yk := yk) (yc := yc) stm y1 (by omega); with_reducible exact ⟨F.2.1, F.2.2, trivial⟩) | (have F := bfin_mix (xn := yn) (xo := yo) (xk := yk) (xc := yc) (yn := xn) (yo := xo) (yk := xk) (yc := xc) stm y1 (by omega); with_reducible exact ⟨F.1, F.2.2, trivial⟩))
        | (have _t := z1; first | (have F := bfin_mix (xn := xn) (xo := xo) (xk := xk) (xc := xc) (yn := yn) (yo := yo) (yk := yk) (yc := yc) stm z1 (by omega); with_reducible exact ⟨F.2.1, F.2.2, trivial⟩) | (have F := bfin_mix (xn := yn) (xo := yo) (xk := yk) (xc := yc) (yn := xn) (yo := xo) (yk := xk) (yc := xc) stm z1 (by omega); with_reducible exact ⟨F.1, F.2.2, trivial⟩))
        | (have F := bfin_new (xn := xn) (xo := xo) (xk := xk) (xc := xc) (yn := yn) (yo := yo) (yk := yk) (yc := yc) stm; with_reducible exact ⟨F.2.1, F.2.2, trivial⟩)
        | (have F := bfin_new (xn := yn) (xo := yo) (xk := yk) (xc := yc) (yn := xn) (yo := xo) (yk := xk) (yc := xc) stm; with_reducible exact ⟨F.1, F.2.2, trivial⟩)
  case rest =>
    obtain ⟨g, yn, yo, yk, yc, rfl, hy, hst2, -⟩ := hcut
    have hb := bent_bn (hst2.bag _ (List.Mem.head _))
    have hE2 := hst2.ext
    have HE := Lib.hid (show Ext w wc from by have h1 := HB.out; rw [← HBe.out] at h1; exact Ext.trans h1 hE2)
    have CI := Lib.hid (refInt_any yn yo yk yc z wc (bn_small hb HZ.out))
    rw [HM.out.1, HM.out.2] at CI
    have y0 := hy.c0
    have y1 := hy.c1
    clear hst std hst2 CF CD HC HB p0 p1 hy hb hE2 HM
    go_wp2_with fail
    refine CI.out.mono ?_
    rintro e w1 ⟨rfl, h1⟩
    have HE1 := Lib.hid (HE.out.trans h1)
    clear y0 y1 h1
    go_wp2
    go_ret
    exact ⟨rfl, HE1.out⟩
end Go.Proofs.YtlpclahlolhjfaaGreatDoor

namespace Go.Proofs.YtlpclahlolhjfaaGreatDoor
open Go Go.RowKit

def invZ (a p : Int) : Int := ((powm a.toNat (p - 2).toNat p.toNat : Nat) : Int)
theorem mr_bounds {p : Int} (h : mr p = true) : 2 ≤ p ∧ p ≤ 2147483647 := by
  unfold mr at h
  rw [Bool.and_eq_true] at h
  exact of_decide_eq_true h.1
theorem invZ_lt {a p : Int} (hp : 0 < p) : 0 ≤ invZ a p ∧ invZ a p < p := by
  have := powm_lt (a := a.toNat) (n := (p - 2).toNat) (p := p.toNat) (by omega)
  unfold invZ
  omega
theorem inverseZ (a p : Int) (w : World) (h0 : 0 ≤ a) (h1 : a < p) (hp1 : 1 < p) (hp : p ≤ 2147483647) :
    Calls Tryz.prog 54 #[.int .i64 a, .int .i64 p] w fun e w' => e = .returned (.int .i64 (invZ a p)) ∧ w = w' := by
  obtain ⟨x, rfl⟩ := Int.eq_ofNat_of_zero_le h0
  obtain ⟨q, rfl⟩ := Int.eq_ofNat_of_zero_le (show 0 ≤ p by omega)
  have := inverse_any x q w (by omega) (by omega) (by omega)
  rw [show invZ (x : Int) (q : Int) = ((powm x (q - 2) q : Nat) : Int) by unfold invZ; rw [show ((q : Int) - 2).toNat = q - 2 by omega]; rfl]
  exact this
theorem refInverseZ (a p : Int) (w : World) (h0 : 0 ≤ a) (h1 : a < p) (hp1 : 1 < p) (hp : p ≤ 2147483647) :
    Calls Tryz.prog 34 #[.int .i64 a, .int .i64 p] w fun e w' => e = .returned (.int .i64 (invZ a p)) ∧ w = w' := by
  obtain ⟨x, rfl⟩ := Int.eq_ofNat_of_zero_le h0
  obtain ⟨q, rfl⟩ := Int.eq_ofNat_of_zero_le (show 0 ≤ p by omega)
  have := refInverse_any x q w (by omega) (by omega) (by omega)
  rw [show invZ (x : Int) (q : Int) = ((powm x (q - 2) q : Nat) : Int) by unfold invZ; rw [show ((q : Int) - 2).toNat = q - 2 by omega]; rfl]
  exact this
set_option maxRecDepth 100000 in
set_option maxHeartbeats 1000000 in
theorem inv_yes (a p : Int) (w : World) (hT : Table64 w) (hp : mr p = true) (h0 : a % p ≠ 0) :
    Calls Tryz.prog 19 #[.int .i64 a, .int .i64 p] w fun e w' => e = .returned (.tuple #[.int .i64 (invZ (a % p) p), .int .i64 0]) ∧ w = w' := by
  obtain ⟨p2, p3⟩ := mr_bounds hp
  have CI := Lib.hid (isPrime_any p w hT)
  rw [hp] at CI
  have CR := Lib.hid (residue_any a p w (by omega) (by omega))
  have CV := Lib.hid (inverseZ (a % p) p w (Int.emod_nonneg a (by omega)) (Int.emod_lt_of_pos a (by omega)) (by omega) p3)
  obtain ⟨z, hz⟩ : ∃ z, a % p = z := ⟨_, rfl⟩
  rw [hz] at CR CV h0
  rw [hz]
  clear hp hT hz
  go_enter Tryz.func19, Tryz.ntmps19
  go_wp2_with fail
  refine CI.out.mono ?_
  rintro e w1 ⟨rfl, rfl⟩
  clear CI
  go_wp2_with fail
  refine CR.out.mono ?_
  rintro e w1 ⟨rfl, rfl⟩
  clear CR
  go_wp2_with fail
  refine CV.out.mono ?_
  rintro e w1 ⟨rfl, rfl⟩
  clear CV
  go_wp2
  go_ret2
  exact ⟨rfl, rfl⟩

end Go.Proofs.YtlpclahlolhjfaaGreatDoor

namespace Go.Proofs.YtlpclahlolhjfaaGreatDoor
open Go Go.RowKit

theorem crtStep_is (X N r p z1 z2 z3 v k : Int) (h1 : r % p = z1) (h2 : X % p = z2) (h3 : (z1 - z2) % p = z3) (h4 : invZ (N % p) p = v) (h5 : z3 * v % p = k) : crtStep X N r p = X + N * k := by
  subst h1 h2 h3 h4 h5; rfl

theorem bg_ent {w : World} {nb : Bool} {ao : Option Addr} {n ca : Nat} {x : Int} (h : Bg w nb ao n ca x) (k : Nat) (hn : n ≤ k) (hk : k ≤ 100000) : Ent.Ok w ⟨.agg #[.bool nb, .slice ao n ca], x, k, false⟩ := by
  obtain ⟨⟨zs, hs, hx⟩, _⟩ := h
  rw [hx]
  exact ok_raw hs k hn hk
theorem residue_ext (a p : Int) (w : World) (h0 : 0 < p) (hp : p ≤ 2147483648) : Calls Tryz.prog 53 #[.int .i64 a, .int .i64 p] w fun e w' => e = .returned (.int .i64 (a % p)) ∧ Ext w w' :=
  (residue_any a p w h0 hp).mono fun _ _ ⟨h, hw⟩ => ⟨h, by rw [hw]; exact Ext.refl _⟩
theorem inverse_ext (a p : Int) (w : World) (h0 : 0 ≤ a) (h1 : a < p) (hp1 : 1 < p) (hp : p ≤ 2147483647) : Calls Tryz.prog 54 #[.int .i64 a, .int .i64 p] w fun e w' => e = .returned (.int .i64 (invZ a p)) ∧ Ext w w' :=
  (inverseZ a p w h0 h1 hp1 hp).mono fun _ _ ⟨h, hw⟩ => ⟨h, by rw [hw]; exact Ext.refl _⟩

set_option maxRecDepth 100000 in
set_option maxHeartbeats 8000000 in
theorem extend_any (xn nn : Bool) (xo no : Option Addr) (xk nk xc nc : Nat) (X N r p : Int) (w : World) (ha : Bg w xn xo xk xc X) (hb : Bg w nn no nk nc N) (hx90 : xk ≤ 90) (hn90 : nk ≤ 90) (hp1 : 1 < p) (hp : p ≤ 2147483647) :
    Calls Tryz.prog 27 #[.agg #[.bool xn, .slice xo xk xc], .agg #[.bool nn, .slice no nk nc], .int .i64 r, .int .i64 p] w fun e w' => ∃ rn ro rk rc, e = .returned (.agg #[.bool rn, .slice ro rk rc]) ∧ Bn w' rn ro rk rc (crtStep X N r p) ∧ Ext w w' := by
  have b10 := Int.emod_nonneg r (show p ≠ 0 by omega)
  have b11 := Int.emod_lt_of_pos r (show 0 < p by omega)
  have b20 := Int.emod_nonneg X (show p ≠ 0 by omega)
  have b21 := Int.emod_lt_of_pos X (show 0 < p by omega)
  have b40 := Int.emod_nonneg N (show p ≠ 0 by omega)
  have b41 := Int.emod_lt_of_pos N (show 0 < p by omega)
  obtain ⟨z1, h1⟩ : ∃ z1, r % p = z1 := ⟨_, rfl⟩
  obtain ⟨z2, h2⟩ : ∃ z2, X % p = z2 := ⟨_, rfl⟩
  obtain ⟨z4, h4⟩ : ∃ z4, N % p = z4 := ⟨_, rfl⟩
  obtain ⟨v, hv⟩ : ∃ v, invZ (N % p) p = v := ⟨_, rfl⟩
  have bv := invZ_lt (a := N % p) (p := p) (by omega)
  rw [hv] at bv
  rw [h1] at b10 b11
  rw [h2] at b20 b21
  rw [h4] at b40 b41
  have b30 := Int.emod_nonneg (z1 - z2) (show p ≠ 0 by omega)
  have b31 := Int.emod_lt_of_pos (z1 - z2) (show 0 < p by omega)
  obtain ⟨z3, h3⟩ : ∃ z3, (z1 - z2) % p = z3 := ⟨_, rfl⟩
  rw [h3] at b30 b31
  obtain ⟨d, hd⟩ : ∃ d, z1 - z2 = d := ⟨_, rfl⟩
  have hwd : IntKind.i64.wrap (z1 - z2) = d := by rw [hd]; exact IntWalk.i64_in _ (by omega)
  have hm0 : 0 ≤ z3 * v := Int.mul_nonneg b30 bv.1
  have hm1 : z3 * v ≤ 2147483647 * 2147483647 := Int.mul_le_mul (by omega) (by omega) bv.1 (by omega)
  obtain ⟨m, hm⟩ : ∃ m, z3 * v = m := ⟨_, rfl⟩
  rw [hm] at hm0 hm1
  have hwm : IntKind.i64.wrap (z3 * v) = m := by rw [hm]; exact IntWalk.i64_in _ (by omega)
  have b50 := Int.emod_nonneg m (show p ≠ 0 by omega)
  have b51 := Int.emod_lt_of_pos m (show 0 < p by omega)
  obtain ⟨k, hk⟩ : ∃ k, m % p = k := ⟨_, rfl⟩
  have htm : m.tmod p = k := by rw [Int.tmod_eq_emod_of_nonneg hm0]; exact hk
  rw [hk] at b50 b51
  rw [crtStep_is X N r p z1 z2 z3 v k h1 h2 h3 hv (by rw [hm]; exact hk)]
  have hp0 : 0 < p := by omega
  have hpz : (p == 0) = false := by apply beq_eq_false_iff_ne.2; omega
  go_enter Tryz.func27, Tryz.ntmps27
  go_upto_region 1 with fail
  obtain ⟨W, hW, hB, hx, hy, hr, hz⟩ := boxes2 w xn xo xk xc nn no nk nc
  rw [← hW]
  clear hW
  have ha := ha.below hB
  have hb := hb.below hB
  have C1 := Lib.hid (fun wx => residue_ext r p wx (by omega) (by omega))
  have C2 := Lib.hid (fun wx (h : Ext W wx) => remainder_any xn xo xk xc X p wx (ha.below h) (by omega) (by omega) (by omega))
  have C3 := Lib.hid (fun wx => residue_ext d p wx (by omega) (by omega))
  have C4 := Lib.hid (fun wx (h : Ext W wx) => remainder_any nn no nk nc N p wx (hb.below h) (by omega) (by omega) (by omega))
  have C5 := Lib.hid (fun wx => inverse_ext z4 p wx b40 b41 hp1 hp)
  rw [h1] at C1
  rw [h2] at C2
  rw [← hd, h3] at C3
  rw [h4] at C4
  rw [← h4, hv] at C5
  rw [h4] at C5
  rw [hd] at C3
  have HA := Lib.hid (show ∀ wx, Ext W wx → Bg wx xn xo xk xc X from fun wx h => ha.below h)
  have HB := Lib.hid (show ∀ wx, Ext W wx → Bg wx nn no nk nc N from fun wx h => hb.below h)
  have HK := Lib.hid (show 0 ≤ k ∧ k < p ∧ p ≤ 2147483647 from ⟨b50, b51, hp⟩)
  generalize hBe : w.heap.size = B at *
  have HBE := Lib.hid hBe
  have HE := Lib.hid (show Ext w W by rw [← hBe] at hB; exact hB)
  have hcells : ∀ wx, Ext W wx → (wx.cell? ⟨B, 0, none⟩ = some (.bool xn) ∧ wx.cell? ⟨B, 1, none⟩ = some (.slice xo xk xc)) ∧ (wx.cell? ⟨B + 1, 0, none⟩ = some (.bool nn) ∧ wx.cell? ⟨B + 1, 1, none⟩ = some (.slice no nk nc)) := fun wx h => ⟨⟨(hx.below h).c0, (hx.below h).c1⟩, ⟨(hy.below h).c0, (hy.below h).c1⟩⟩
  have HC := Lib.hid hcells
  have HR := Lib.hid (show ∀ wx, Ext W wx → Box wx (B + 1 + 1) false none 0 0 from fun wx h => hr.below h)
  have HBz := Lib.hid (show B + 1 + 1 < W.heap.size from hr.lt)
  have EX := bg_ent ha 90 hx90 (by omega)
  have EN := bg_ent hb 90 hn90 (by omega)
  have stn : St W W [⟨.agg #[.bool xn, .slice xo xk xc], X, 90, false⟩, ⟨.agg #[.bool nn, .slice no nk nc], N, 90, false⟩] := ⟨Ext.refl W, fun p hp => by
    simp only [List.mem_cons, List.not_mem_nil, or_false] at hp
    rcases hp with rfl | rfl
    · exact EX
    · exact EN⟩
  clear EX EN
  clear hcells hx hy hr ha hb hB hz hBe h1 h2 h3 h4 hv hd hm hk b10 b11 b20 b21 b30 b31 b40 b41 b50 b51 bv hm0 hm1 hp1 hp hx90 hn90
  obtain ⟨⟨d0, d1⟩, d2, d3⟩ := HC.out W (Ext.refl W)
  have std := stn.drew
  first | (go_region_held3 (fun wx => (wx.cell? ⟨B, 0, none⟩ = some (.bool xn) ∧ wx.cell? ⟨B, 1, none⟩ = some (.slice xo xk xc)) ∧ (wx.cell? ⟨B + 1, 0, none⟩ = some (.bool nn) ∧ wx.cell? ⟨B + 1, 1, none⟩ = some (.slice no nk nc)))
    (first | exact HC.out _ (by exact St.ext (by with_reducible assumption)))
    (first
      | (go_at_call 53; (with_reducible refine (C1.out _).mono ?_); rintro e wn ⟨rfl, hwn⟩; have stn := St.step (W := W) (by with_reducible assumption) hwn)
      | (go_at_call 53; (with_reducible refine (C3.out _).mono ?_); rintro e wn ⟨rfl, hwn⟩; have stn := St.step (W := W) (by with_reducible assumption) hwn)
      | (go_at_call 71; (with_reducible refine (C2.out _ (by exact St.ext (by assumption))).mono ?_); rintro e wn ⟨rfl, hwn⟩; have stn := St.step (W := W) (by with_reducible assumption) hwn)
      )) | fail "no walk"
  clear std d0 d1 d2 d3 C1 C2 C3
  obtain ⟨⟨d0, d1⟩, d2, d3⟩ := HC.out _ stn.ext
  go_wp2_with fail
  refine (C4.out _ (by exact St.ext stn)).mono ?_
  rintro e w4 ⟨rfl, h4⟩
  have st4 := stn.step h4
  clear d0 d1 d2 d3 stn h4 C4
  go_wp2_with fail
  refine (C5.out _).mono ?_
  rintro e w5 ⟨rfl, h5⟩
  have st5 := st4.step h5
  clear st4 h5 C5
  go_upto_region 3 with fail
  obtain ⟨⟨d0, d1⟩, d2, d3⟩ := HC.out _ st5.ext
  clear hwd hwm htm hp0 hpz
  have std := st5.drew
  first | (go_region_held3 (fun wx => (wx.cell? ⟨B, 0, none⟩ = some (.bool xn) ∧ wx.cell? ⟨B, 1, none⟩ = some (.slice xo xk xc)) ∧ (wx.cell? ⟨B + 1, 0, none⟩ = some (.bool nn) ∧ wx.cell? ⟨B + 1, 1, none⟩ = some (.slice no nk nc)))
    ((refine ⟨?_, ?_⟩; ((repeat (first | with_reducible refine bcells_drew ?_ | with_reducible refine bcells_alloc ?_ | with_reducible refine bcells_stored (by omega) ?_)); exact (HC.out _ (by exact St.ext (by with_reducible assumption))).1); ((repeat (first | with_reducible refine bcells_drew ?_ | with_reducible refine bcells_alloc ?_ | with_reducible refine bcells_stored (by omega) ?_)); exact (HC.out _ (by exact St.ext (by with_reducible assumption))).2)))
    (first
      | (go_at_call 21; refine (fromInt_bag (W := W) (by with_reducible assumption) k (by have := HK.out; omega)).mono ?_; rintro e wn ⟨r1, rfl, stn⟩)
      | (go_at_call 20; refine (mul_bag (W := W) (by with_reducible assumption) (by repeat (first | exact List.Mem.head _ | refine List.Mem.tail _ ?_)) (by repeat (first | exact List.Mem.head _ | refine List.Mem.tail _ ?_)) (by omega) (by omega) (by omega)).mono ?_; rintro e wn ⟨r2, rfl, stm⟩)
      | (go_at_call 29; refine (add_bag (W := W) (by with_reducible assumption) (by repeat (first | exact List.Mem.head _ | refine List.Mem.tail _ ?_)) (by repeat (first | exact List.Mem.head _ | refine List.Mem.tail _ ?_)) (by omega) (by omega)).mono ?_; rintro e wr ⟨r3, rfl, str⟩; obtain ⟨xn', xo', xk', xc', rfl, e1, e2, e3, e4⟩ := str.bag _ (List.Mem.head _); have bz := HR.out _ (by exact St.ext (by with_reducible assumption)); have z0 := bz.c0; have z1 := bz.c1; have z2 := bz.f 0; have z3 := bz.f 1)
      )) | fail "no walk"
  have hbn := e4 trivial
  have zz := bz.stored xn' xo' xk' xc'
  have y0 := zz.c0
  have y1 := zz.c1
  have ho := only_set2 wr (B + 1 + 1) (.bool xn') (.slice xo' xk' xc')
  have HF := Lib.hid (show Bn ((wr.setCell ⟨B + 1 + 1, 0, none⟩ (.bool xn')).setCell ⟨B + 1 + 1, 1, none⟩ (.slice xo' xk' xc')) xn' xo' xk' xc' (X + N * k) ∧ Ext w ((wr.setCell ⟨B + 1 + 1, 0, none⟩ (.bool xn')).setCell ⟨B + 1 + 1, 1, none⟩ (.slice xo' xk' xc')) from
    ⟨⟨hbn.neg, hbn.sl.only_box bz ho⟩, Below.trans (HE.out.trans str.ext) (ho.below (by rw [HBE.out]; omega))⟩)
  clear z0 z1 z2 z3 d0 d1 d2 d3 e1 e2 e3 e4 hbn zz bz ho std stn stm str st5
  go_wp2
  refine bodyPost_ret (v := .agg #[.bool xn', .slice xo' xk' xc']) (by simp [results, Tryz.results27, go_sem, y0, y1]) rfl ⟨xn', xo', xk', xc', rfl, HF.out.1, HF.out.2⟩
end Go.Proofs.YtlpclahlolhjfaaGreatDoor
