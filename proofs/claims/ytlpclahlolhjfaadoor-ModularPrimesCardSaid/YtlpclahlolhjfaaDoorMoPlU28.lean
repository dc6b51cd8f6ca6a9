import Derived.Test.YtlpclahlolhjfaaDoorMoPlU27
namespace Go.Proofs.YtlpclahlolhjfaaDoor
open Go Go.RowKit

set_option maxRecDepth 100000 in
set_option maxHeartbeats 4000000 in
theorem remainder_any (pn : Bool) (po : Option Addr) (pk pc : Nat) (x p : Int) (w : World) (ha : Bg w pn po pk pc x) (hn : pk ≤ 100000000) (h0 : 0 < p) (hp : p ≤ 2147483648) :
    Calls Tryd.prog 44 #[.agg #[.bool pn, .slice po pk pc], .int .i64 p] w fun e w' => e = .returned (.int .i64 (x % p)) ∧ Ext w w' := by
  obtain ⟨z, hz⟩ : ∃ z, x % p = z := ⟨_, rfl⟩
  have HM := Lib.hid (mod_small (x := x) h0 hp)
  have HZ := Lib.hid (mod_abs (x := x) h0 hp)
  rw [hz] at HM HZ
  rw [hz]
  go_enter Tryd.func44, Tryd.ntmps44
  go_upto_region 1 with fail
  obtain ⟨W, hW, hB, hx, _⟩ := box_new w pn po pk pc
  rw [← hW]
  clear hW
  have ha := ha.below hB
  generalize hBe : w.heap.size = B at *
  have HBe := Lib.hid hBe
  have HB := Lib.hid hB
  have CF := Lib.hid (fun W' L' (h : RSt W W' L') => fromInt_ent p h (by omega))
  have CD := Lib.hid (fun W' fn fo fk fc (h : RSt W W' [bent (.agg #[.bool fn, .slice fo fk fc]) p]) => divMod_ent pn po pk pc x p fn fo fk fc h (ha.below h.ext) hn h0 hp)
  rw [hz] at CD
  have hcells : ∀ wx, Ext W wx → wx.cell? ⟨B, 0, none⟩ = some (.bool pn) ∧ wx.cell? ⟨B, 1, none⟩ = some (.slice po pk pc) := fun wx h => ⟨(hx.below h).c0, (hx.below h).c1⟩
  have HC := Lib.hid hcells; clear hcells hz
  obtain ⟨p0, p1⟩ := HC.out W (Ext.refl W)
  have hst : RSt W W [] := ⟨Ext.refl W, fun p hp => by cases hp⟩
  have std := hst.drew
  clear hx ha hBe hB hn h0 hp
  go_cut [5, 6, 7] from 10 (fun _ p e wx => ∃ g yn yo yk yc, p = .pointer (some ⟨g, 0, none⟩) ∧ e = .int .i64 0 ∧ Box wx g yn yo yk yc ∧ RSt W wx [bent (.agg #[.bool yn, .slice yo yk yc]) z] ∧ True)
  case first =>
    first | (go_region_held3 (fun wx => (wx.cell? ⟨B, 0, none⟩ = some (.bool pn) ∧ wx.cell? ⟨B, 1, none⟩ = some (.slice po pk pc)))
      ((first | ((repeat (first | with_reducible refine bcells_drew ?_ | with_reducible refine bcells_alloc ?_ | with_reducible refine bcells_stored (by omega) ?_)); exact (HC.out _ (by first | with_reducible exact Ext.refl _ | with_reducible exact RSt.ext (W := W) (by with_reducible assumption))))))
      (first
        | (go_at_call 23; refine (CF.out _ _ (by first | with_reducible assumption | with_reducible exact RSt.drew (by with_reducible assumption) | with_reducible exact RSt.alloc (by with_reducible assumption) _ | with_reducible exact RSt.alloc (RSt.alloc (by with_reducible assumption) _) _ | with_reducible exact RSt.drew (RSt.alloc (by with_reducible assumption) _) | with_reducible exact RSt.drew (RSt.alloc (RSt.alloc (by with_reducible assumption) _) _))).mono ?_; rintro e wn ⟨fn, fo, fk, fc, rfl, hE1, stn⟩; have sz1 := sizeB stn.ext; (first | (have y12 := bbox_in2d (w := W) (wn := wn) (by with_reducible assumption); have y1 : Box wn W.heap.size false none 0 0 := y12.1; have y2 : Box wn (W.heap.size + 1) false none 0 0 := y12.2; clear y12; have yl1 := y1.lt; have yl2 := y2.lt) | (have y12 := bbox_in1d (w := W) (wn := wn) (by with_reducible assumption); have y1 : Box wn W.heap.size false none 0 0 := y12; clear y12; have yl1 := y1.lt) | skip))
        | (go_at_call 61; refine (CD.out _ _ _ _ _ (by first | with_reducible assumption | with_reducible exact RSt.drew (by with_reducible assumption) | with_reducible exact RSt.alloc (by with_reducible assumption) _ | with_reducible exact RSt.alloc (RSt.alloc (by with_reducible assumption) _) _ | with_reducible exact RSt.drew (RSt.alloc (by with_reducible assumption) _) | with_reducible exact RSt.drew (RSt.alloc (RSt.alloc (by with_reducible assumption) _) _))).mono ?_; rintro e wm ⟨xn, xo, xk, xc, yn, yo, yk, yc, rfl, hE2, stm⟩; have sz2 := sizeB stm.ext; (first | (obtain ⟨z1, z2⟩ := bbox_in2 (w := wn) (wn := wm) (by with_reducible assumption); have zl1 := z1.lt; have zl2 := z2.lt; have hE3 : Ext wn wm := Ext.trans (Ext.trans (ext_allocB _ _) (ext_allocB _ _)) hE2) | (have z1 := bbox_in1 (w := wn) (wn := wm) (by with_reducible assumption); have zl1 := z1.lt; have hE3 : Ext wn wm := Ext.trans (ext_allocB _ _) hE2) | (have hE3 : Ext wn wm := hE2)); (first | (have y2 := y2.below hE3; have ym2 := y2.lt; have v0 := y2.c0; have v1 := y2.c1; have v2 := y2.f 0; have v3 := y2.f 1) | skip); (first | (have y1 := y1.below hE3; have ym1 := y1.lt; have u0 := y1.c0; have u1 := y1.c1; have u2 := y1.f 0; have u3 := y1.f 1) | skip); (first | (have s0 := z1.c0; have s1 := z1.c1; have s2 := z1.f 0; have s3 := z1.f 1) | skip); (first | (have t0 := z2.c0; have t1 := z2.c1; have t2 := z2.f 0; have t3 := z2.f 1) | skip)))) | fail "no walk"
    all_goals
      try clear u0 u1 u2 u3
      try clear v0 v1 v2 v3
      try clear s0 s1 s2 s3
      try clear t0 t1 t2 t3
      go_wp2
      go_meet
    all_goals
      refine ⟨_, yn, yo, yk, yc, rfl, rfl, ?_⟩
      first
        | (have _t := y2; first | (have F := bpair_stored (xn := xn) (xo := xo) (xk := xk) (xc := xc) (yn := yn) (yo := yo) (yk := yk) (yc := yc) y1 y2 (by omega) stm (by omega) (by omega); with_reducible exact ⟨F.2.1, F.2.2, trivial⟩) | (have F := bpair_stored (xn := xn) (xo := xo) (xk := xk) (xc := xc) (yn := yn) (yo := yo) (yk := yk) (yc := yc) y2 y1 (by omega) stm (by omega) (by omega); with_reducible exact ⟨F.2.1, F.2.2, trivial⟩))
        | (have _t := z2; first | (have F := bpair_stored (xn := xn) (xo := xo) (xk := xk) (xc := xc) (yn := yn) (yo := yo) (yk := yk) (yc := yc) z1 z2 (by omega) stm (by omega) (by omega); with_reducible exact ⟨F.2.1, F.2.2, trivial⟩) | (have F := bpair_stored (xn := xn) (xo := xo) (xk := xk) (xc := xc) (yn := yn) (yo := yo) (yk := yk) (yc := yc) z2 z1 (by omega) stm (by omega) (by omega); with_reducible exact ⟨F.2.1, F.2.2, trivial⟩))
        | (have _t := y1; have _t2 := z1; first | (have F := bpair_stored (xn := xn) (xo := xo) (xk := xk) (xc := xc) (yn := yn) (yo := yo) (yk := yk) (yc := yc) y1 z1 (by omega) stm (by omega) (by omega); with_reducible exact ⟨F.2.1, F.2.2, trivial⟩) | (have F := bpair_stored (xn := xn) (xo := xo) (xk := xk) (xc := xc) (yn := yn) (yo := yo) (yk := yk) (yc := yc) z1 y1 (by omega) stm (by omega) (by omega); with_reducible exact ⟨F.2.1, F.2.2, trivial⟩))
        | (have _t := y1; first | (have F := bfin_mix (xn := xn) (xo := xo) (xk := xk) (xc := xc) (yn := yn) (yo := yo) (yk := yk) (yc := yc) stm y1 (by omega); with_reducible exact ⟨F.2.1, F.2.2, trivial⟩) | (have F := bfin_mix (xn := yn) (xo := yo) (xk := yk) (xc := yc) (yn := xn) (yo := xo) (yk := xk) (yc := xc) stm y1 (by omega); with_reducible exact ⟨F.1, F.2.2, trivial⟩))
        | (have _t := z1; first | (have F := bfin_mix (xn := xn) (xo := xo) (xk := xk) (xc := xc) (yn := yn) (yo := yo) (yk := yk) (yc := yc) stm z1 (by omega); with_reducible exact ⟨F.2.1, F.2.2, trivial⟩) | (have F := bfin_mix (xn := yn) (xo := yo) (xk := yk) (xc := yc) (yn := xn) (yo := xo) (yk := xk) (yc := xc) stm z1 (by omega); with_reducible exact ⟨F.1, F.2.2, trivial⟩))
        | (have F := bfin_new (xn := xn) (xo := xo) (xk := xk) (xc := xc) (yn := yn) (yo := yo) (yk := yk) (yc := yc) stm; with_reducible exact ⟨F.2.1, F.2.2, trivial⟩)
        | (have F := bfin_new (xn := yn) (xo := yo) (xk := yk) (xc := yc) (yn := xn) (yo := xo) (yk := xk) (yc := xc) stm; with_reducible exact ⟨F.1, F.2.2, trivial⟩)
  case rest =>
    obtain ⟨g, yn, yo, yk, yc, rfl, rfl, hy, hst2, -⟩ := hcut
    have hb := bent_bn (hst2.bag _ (List.Mem.head _))
    have hE2 := hst2.ext
    have HE := Lib.hid (show Ext w wc from by have h1 := HB.out; rw [← HBe.out] at h1; exact Ext.trans h1 hE2)
    have CI := Lib.hid (int_any yn yo yk yc z wc (bn_small hb HZ.out))
    rw [HM.out.1, HM.out.2] at CI
    have y0 := hy.c0
    have y1 := hy.c1
    clear hst std hst2 CF CD HC HB p0 p1 hy hb hE2 HM
    go_wp2_with fail
    refine CI.out.mono ?_
    rintro e w1 ⟨rfl, h1⟩
    have HE1 := Lib.hid (HE.out.trans h1)
    clear y0 y1 h1
    go_wp2
    go_ret
    exact ⟨rfl, HE1.out⟩
end Go.Proofs.YtlpclahlolhjfaaDoor
