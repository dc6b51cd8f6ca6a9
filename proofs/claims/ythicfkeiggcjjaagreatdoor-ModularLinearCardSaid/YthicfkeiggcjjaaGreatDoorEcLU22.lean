import Derived.Test.YthicfkeiggcjjaaGreatDoorEcLU21
import Derived.Test.YthicfkeiggcjjaaGreatDoorEcLU18
import Derived.Test.YthicfkeiggcjjaaGreatDoorEcLU20
namespace Go.Proofs.YthicfkeiggcjjaaGreatDoor
open Go Go.RowKit

set_option maxRecDepth 100000 in
set_option maxHeartbeats 4000000 in
theorem remainder_any (pn : Bool) (po : Option Addr) (pk pc : Nat) (x p : Int) (w : World) (ha : Bg w pn po pk pc x) (hn : pk ≤ 100000000) (h0 : 0 < p) (hp : p ≤ 2147483648) :
    Calls Tryz.prog 67 #[.agg #[.bool pn, .slice po pk pc], .int .i64 p] w fun e w' => e = .returned (.int .i64 (x % p)) ∧ Ext w w' := by
  obtain ⟨z, hz⟩ : ∃ z, x % p = z := ⟨_, rfl⟩
  have HM := Lib.hid (mod_small (x := x) h0 hp)
  have HZ := Lib.hid (mod_abs (x := x) h0 hp)
  rw [hz] at HM HZ
  rw [hz]
  go_enter Tryz.func67, Tryz.ntmps67
  go_upto_region 1 with fail
  obtain ⟨W, hW, hB, hx, _⟩ := box_new w pn po pk pc
  rw [← hW]
  clear hW
  have ha := ha.below hB
  generalize hBe : w.heap.size = B at *
  have HBe := Lib.hid hBe
  have HB := Lib.hid hB
  have CF := Lib.hid (fun W' L' (h : RSt W W' L') => fromInt_ent p h (by omega))
  have CD := Lib.hid (fun W' fn fo fk fc (h : RSt W W' [bent (.agg #[.bool fn, .slice fo fk fc]) p]) => divMod_ent pn po pk pc x p fn fo fk fc h (ha.below h.ext) hn h0 hp)
  rw [hz] at CD
  have hcells : ∀ wx, Ext W wx → wx.cell? ⟨B, 0, none⟩ = some (.bool pn) ∧ wx.cell? ⟨B, 1, none⟩ = some (.slice po pk pc) := fun wx h => ⟨(hx.below h).c0, (hx.below h).c1⟩
  have HC := Lib.hid hcells; clear hcells hz
  obtain ⟨p0, p1⟩ := HC.out W (Ext.refl W)
  have hst : RSt W W [] := ⟨Ext.refl W, fun p hp => by cases hp⟩
  have std := hst.drew
  clear hx ha hBe hB hn h0 hp
  go_cut [5, 6, 7] from 10 (fun _ p e wx => ∃ g yn yo yk yc, p = .pointer (some ⟨g, 0, none⟩) ∧ e = .int .i64 0 ∧ Box wx g yn yo yk yc ∧ RSt W wx [bent (.agg #[.bool yn, .slice yo yk yc]) z] ∧ True)
  case first =>
    first | (go_region_held3 (fun wx => (wx.cell? ⟨B, 0, none⟩ = some (.bool pn) ∧ wx.cell? ⟨B, 1, none⟩ = some (.slice po pk pc)))
      ((first | ((repeat (first | with_reducible refine bcells_drew ?_ | with_reducible refine bcells_alloc ?_ | with_reducible refine bcells_stored (by omega) ?_)); exact (HC.out _ (by first | with_reducible exact Ext.refl _ | with_reducible exact RSt.ext (W := W) (by with_reducible assumption))))))
      (first
        | (go_at_call 45; refine (CF.out _ _ (by first | with_reducible assumption | with_reducible exact RSt.drew (by with_reducible assumption) | with_reducible exact RSt.alloc (by with_reducible assumption) _ | with_reducible exact RSt.alloc (RSt.alloc (by with_reducible assumption) _) _ | with_reducible exact RSt.drew (RSt.alloc (by with_reducible assumption) _) | with_reducible exact RSt.drew (RSt.alloc (RSt.alloc (by with_reducible assumption) _) _))).mono ?_; rintro e wn ⟨fn, fo, fk, fc, rfl, hE1, stn⟩; have sz1 := sizeB stn.ext; (first | (have y12 := bbox_in2d (w := W) (wn := wn) (by with_reducible assumption); have y1 : Box wn W.heap.size false none 0 0 := y12.1; have y2 : Box wn (W.heap.size + 1) false none 0 0 := y12.2; clear y12; have yl1 := y1.lt; have yl2 := y2.lt) | (have y12 := bbox_in1d (w := W) (wn := wn) (by with_reducible assumption); have y1 : Box wn W.heap.size false none 0 0 := y12; clear y12; have yl1 := y1.lt) | skip))
        | (go_at_call 84; refine (CD.out _ _ _ _ _ (by first | with_reducible assumption | with_reducible exact RSt.drew (by with_reducible assumption) | with_reducible exact RSt.alloc (by with_reducible assumption) _ | with_reducible exact RSt.alloc (RSt.alloc (by with_reducible assumption) _) _ | with_reducible exact RSt.drew (RSt.alloc (by with_reducible assumption) _) | with_reducible exact RSt.drew (RSt.alloc (RSt.alloc (by with_reducible assumption) _) _))).mono ?_; rintro e wm ⟨xn, xo, xk, xc, yn, yo, yk, yc, rfl, hE2, stm⟩; have sz2 := sizeB stm.ext; (first | (obtain ⟨z1, z2⟩ := bbox_in2 (w := wn) (wn := wm) (by with_reducible assumption); have zl1 := z1.lt; have zl2 := z2.lt; have hE3 : Ext wn wm := Ext.trans (Ext.trans (ext_allocB _ _) (ext_allocB _ _)) hE2) | (have z1 := bbox_in1 (w := wn) (wn := wm) (by with_reducible assumption); have zl1 := z1.lt; have hE3 : Ext wn wm := Ext.trans (ext_allocB _ _) hE2) | (have hE3 : Ext wn wm := hE2)); (first | (have y2 := y2.below hE3; have ym2 := y2.lt; have v0 := y2.c0; have v1 := y2.c1; have v2 := y2.f 0; have v3 := y2.f 1) | skip); (first | (have y1 := y1.below hE3; have ym1 := y1.lt; have u0 := y1.c0; have u1 := y1.c1; have u2 := y1.f 0; have u3 := y1.f 1) | skip); (first | (have s0 := z1.c0; have s1 := z1.c1; have s2 := z1.f 0; have s3 := z1.f 1) | skip); (first | (have t0 := z2.c0; have t1 := z2.c1; have t2 := z2.f 0; have t3 := z2.f 1) | skip)))) | fail "no walk"
    all_goals
      try clear u0 u1 u2 u3
      try clear v0 v1 v2 v3
      try clear s0 s1 s2 s3
      try clear t0 t1 t2 t3
      go_wp2
      go_meet
    all_goals
      refine ⟨_, yn, yo, yk, yc, rfl, rfl, ?_⟩
      first
        | (have _t := y2; first | (have F := bpair_stored (xn := xn) (xo := xo) (xk := xk) (xc := xc) (yn := yn) (yo := yo) (yk := yk) (yc := yc) y1 y2 (by omega) stm (by omega) (by omega); with_reducible exact ⟨F.2.1, F.2.2, trivial⟩) | (have F := bpair_stored (xn := xn) (xo := xo) (xk := xk) (xc := xc) (yn := yn) (yo := yo) (yk := yk) (yc := yc) y2 y1 (by omega) stm (by omega) (by omega); with_reducible exact ⟨F.2.1, F.2.2, trivial⟩))
        | (have _t := z2; first | (have F := bpair_stored (xn := xn) (xo := xo) (xk := xk) (xc := xc) (yn := yn) (yo := yo) (yk := yk) (yc := yc) z1 z2 (by omega) stm (by omega) (by omega); with_reducible exact ⟨F.2.1, F.2.2, trivial⟩) | (have F := bpair_stored (xn := xn) (xo := xo) (xk := xk) (xc := xc) (yn := yn) (yo := yo) (yk := yk) (yc := yc) z2 z1 (by omega) stm (by omega) (by omega); with_reducible exact ⟨F.2.1, F.2.2, trivial⟩))
        | (have _t := y1; have _t2 := z1; first | (have F := bpair_stored (xn := xn) (xo := xo) (xk := xk) (xc := xc) (yn := yn) (yo := yo) (yk := yk) (yc := yc) y1 z1 (by omega) stm (by omega) (by omega); with_reducible exact ⟨F.2.1, F.2.2, trivial⟩) | (have F := bpair_stored (xn := xn) (xo := xo) (xk := xk) (xc := xc) (yn := yn) (yo := yo) (yk := yk) (yc := yc) z1 y1 (by omega) stm (by omega) (by omega); with_reducible exact ⟨F.2.1, F.2.2, trivial⟩))
        | (have _t := y1; first | (have F := bfin_mix (xn := xn) (xo := xo) (xk := xk) (xc := xc) (yn := yn) (yo := yo) (yk := yk) (yc := yc) stm y1 (by omega); with_reducible exact ⟨F.2.1, F.2.2, trivial⟩) | (have F := bfin_mix (xn := yn) (xo := yo) (xk := yk) (xc := yc) (yn := xn) (yo := xo) (yk := xk) (yc := xc) stm y1 (by omega); with_reducible exact ⟨F.1, F.2.2, trivial⟩))
        | (have _t := z1; first | (have F := bfin_mix (xn := xn) (xo := xo) (xk := xk) (xc := xc) (yn := yn) (yo := yo) (yk := yk) (yc := yc) stm z1 (by omega); with_reducible exact ⟨F.2.1, F.2.2, trivial⟩) | (have F := bfin_mix (xn := yn) (xo := yo) (xk := yk) (xc := yc) (yn := xn) (yo := xo) (yk := xk) (yc := xc) stm z1 (by omega); with_reducible exact ⟨F.1, F.2.2, trivial⟩))
        | (have F := bfin_new (xn := xn) (xo := xo) (xk := xk) (xc := xc) (yn := yn) (yo := yo) (yk := yk) (yc := yc) stm; with_reducible exact ⟨F.2.1, F.2.2, trivial⟩)
        | (have F := bfin_new (xn := yn) (xo := yo) (xk := yk) (xc := yc) (yn := xn) (yo := xo) (yk := xk) (yc := xc) stm; with_reducible exact ⟨F.1, F.2.2, trivial⟩)
  case rest =>
    obtain ⟨g, yn, yo, yk, yc, rfl, rfl, hy, hst2, -⟩ := hcut
    have hb := bent_bn (hst2.bag _ (List.Mem.head _))
    have hE2 := hst2.ext
    have HE := Lib.hid (show Ext w wc from by have h1 := HB.out; rw [← HBe.out] at h1; exact Ext.trans h1 hE2)
    have CI := Lib.hid (int_any yn yo yk yc z wc (bn_small hb HZ.out))
    rw [HM.out.1, HM.out.2] at CI
    have y0 := hy.c0
    have y1 := hy.c1
    clear hst std hst2 CF CD HC HB p0 p1 hy hb hE2 HM
    go_wp2_with fail
    refine CI.out.mono ?_
    rintro e w1 ⟨rfl, h1⟩
    have HE1 := Lib.hid (HE.out.trans h1)
    clear y0 y1 h1
    go_wp2
    go_ret
    exact ⟨rfl, HE1.out⟩
end Go.Proofs.YthicfkeiggcjjaaGreatDoor

namespace Go.Proofs.YthicfkeiggcjjaaGreatDoor
open Go Go.RowKit

def invZ (a p : Int) : Int := ((powm a.toNat (p - 2).toNat p.toNat : Nat) : Int)
theorem mr_bounds {p : Int} (h : mr p = true) : 2 ≤ p ∧ p ≤ 2147483647 := by
  unfold mr at h
  rw [Bool.and_eq_true] at h
  exact of_decide_eq_true h.1
theorem invZ_lt {a p : Int} (hp : 0 < p) : 0 ≤ invZ a p ∧ invZ a p < p := by
  have := powm_lt (a := a.toNat) (n := (p - 2).toNat) (p := p.toNat) (by omega)
  unfold invZ
  omega
theorem inverseZ (a p : Int) (w : World) (h0 : 0 ≤ a) (h1 : a < p) (hp1 : 1 < p) (hp : p ≤ 2147483647) :
    Calls Tryz.prog 43 #[.int .i64 a, .int .i64 p] w fun e w' => e = .returned (.int .i64 (invZ a p)) ∧ w = w' := by
  obtain ⟨x, rfl⟩ := Int.eq_ofNat_of_zero_le h0
  obtain ⟨q, rfl⟩ := Int.eq_ofNat_of_zero_le (show 0 ≤ p by omega)
  have := inverse_any x q w (by omega) (by omega) (by omega)
  rw [show invZ (x : Int) (q : Int) = ((powm x (q - 2) q : Nat) : Int) by unfold invZ; rw [show ((q : Int) - 2).toNat = q - 2 by omega]; rfl]
  exact this
theorem refInverseZ (a p : Int) (w : World) (h0 : 0 ≤ a) (h1 : a < p) (hp1 : 1 < p) (hp : p ≤ 2147483647) :
    Calls Tryz.prog 63 #[.int .i64 a, .int .i64 p] w fun e w' => e = .returned (.int .i64 (invZ a p)) ∧ w = w' := by
  obtain ⟨x, rfl⟩ := Int.eq_ofNat_of_zero_le h0
  obtain ⟨q, rfl⟩ := Int.eq_ofNat_of_zero_le (show 0 ≤ p by omega)
  have := refInverse_any x q w (by omega) (by omega) (by omega)
  rw [show invZ (x : Int) (q : Int) = ((powm x (q - 2) q : Nat) : Int) by unfold invZ; rw [show ((q : Int) - 2).toNat = q - 2 by omega]; rfl]
  exact this
set_option maxRecDepth 100000 in
set_option maxHeartbeats 1000000 in
theorem inv_yes (a p : Int) (w : World) (hT : Table64 w) (hp : mr p = true) (h0 : a % p ≠ 0) :
    Calls Tryz.prog 28 #[.int .i64 a, .int .i64 p] w fun e w' => e = .returned (.tuple #[.int .i64 (invZ (a % p) p), .int .i64 0]) ∧ w = w' := by
  obtain ⟨p2, p3⟩ := mr_bounds hp
  have CI := Lib.hid (isPrime_any p w hT)
  rw [hp] at CI
  have CR := Lib.hid (residue_any a p w (by omega) (by omega))
  have CV := Lib.hid (inverseZ (a % p) p w (Int.emod_nonneg a (by omega)) (Int.emod_lt_of_pos a (by omega)) (by omega) p3)
  obtain ⟨z, hz⟩ : ∃ z, a % p = z := ⟨_, rfl⟩
  rw [hz] at CR CV h0
  rw [hz]
  clear hp hT hz
  go_enter Tryz.func28, Tryz.ntmps28
  go_wp2_with fail
  refine CI.out.mono ?_
  rintro e w1 ⟨rfl, rfl⟩
  clear CI
  go_wp2_with fail
  refine CR.out.mono ?_
  rintro e w1 ⟨rfl, rfl⟩
  clear CR
  go_wp2_with fail
  refine CV.out.mono ?_
  rintro e w1 ⟨rfl, rfl⟩
  clear CV
  go_wp2
  go_ret2
  exact ⟨rfl, rfl⟩

end Go.Proofs.YthicfkeiggcjjaaGreatDoor

namespace Go.Proofs.YthicfkeiggcjjaaGreatDoor
open Go Go.RowKit

def scaleRow (p inv : Int) (l : List Int) : List Int := (List.range l.length).map fun x => l.getD x 0 * inv % p
def scaleM (p : Int) (np col : Nat) (M : List (List Int)) : List (List Int) := M.set np (scaleRow p (invZ ((M.getD np []).getD col 0) p) (M.getD np []))
theorem mul_step {p v m : Int} (hp : 2 ≤ p) (hp2 : p ≤ 2147483647) (h1 : 0 ≤ v) (h2 : v < p) (h3 : 0 ≤ m) (h4 : m < p) :
    IntKind.i64.wrap (v * m) = v * m ∧ (v * m).tmod p = v * m % p ∧ 0 ≤ v * m % p ∧ v * m % p < p := by
  have a1 : 0 ≤ v * m := Int.mul_nonneg h1 h3
  have a2 : v * m ≤ 2147483647 * 2147483647 := Int.mul_le_mul (by omega) (by omega) h3 (by omega)
  exact ⟨IntWalk.i64_in _ (by omega), Int.tmod_eq_emod_of_nonneg a1, Int.emod_nonneg _ (by omega), Int.emod_lt_of_pos _ (by omega)⟩

set_option maxRecDepth 100000 in
set_option maxHeartbeats 8000000 in
theorem scalePivot_any (e b cn np col c B : Nat) (qo : Option Addr) (qc : Nat) (p fac : Int) (rs : List (Nat × Nat)) (M : List (List Int)) (w : World) (he : VBlk w e #[.int .i64 p, .slice (some ⟨b, 0, none⟩) rs.length cn, .slice qo np qc, .int .i64 fac] 59) (hM : Mat w b rs c M) (hr : Res p M)
    (hnp : np < rs.length) (hcol : col < c) (_hcn : rs.length ≤ cn) (hcap : ∀ i, i < rs.length → c ≤ (rs.getD i (0, 0)).2) (hp : 2 ≤ p) (hp2 : p ≤ 2147483647) (hf : 0 ≤ fac ∧ fac < p) (heb : e ≠ b) (her : ∀ i, i < rs.length → (rs.getD i (0, 0)).1 ≠ e) (hB : ∀ i, i < rs.length → B ≤ (rs.getD i (0, 0)).1) (hBe : B ≤ e) (_hn6 : rs.length ≤ 1000000) (hc6 : c ≤ 1000000) :
    Calls Tryz.prog 61 #[.pointer (some ⟨e, 0, none⟩), .int .i64 col] w fun r w' => (∃ u, r = .returned u) ∧ VBlk w' e #[.int .i64 p, .slice (some ⟨b, 0, none⟩) rs.length cn, .slice qo np qc, .int .i64 (fac * (M.getD np []).getD col 0 % p)] 59 ∧ Mat w' b rs c (scaleM p np col M) ∧ Keeps B e b rs w w' := by
  obtain ⟨n, hn⟩ : ∃ n, rs.length = n := ⟨_, rfl⟩
  rw [hn] at he hnp _hcn hcap her hB _hn6 ⊢
  have hnr : np < rs.length := by rw [hn]; exact hnp
  have hnm : np < M.length := by rw [hM.len]; exact hnr
  have HN := Lib.hid hn
  have HLM := Lib.hid (show M.length = n by rw [hM.len, hn])
  have HR := Lib.hid hr
  have HER := Lib.hid her
  have hrow := hM.row np hnr
  have HRL := Lib.hid hrow.2
  have hcz := hrow.1.c (j := col) (by rw [hrow.2]; exact hcol)
  have hvz := HR.out.at hnm (j := col) (by rw [hrow.2]; exact hcol)
  obtain ⟨gt, hgt⟩ : ∃ gt, (rs.getD np (0, 0)).1 = gt := ⟨_, rfl⟩
  obtain ⟨ct, hct⟩ : ∃ ct, (rs.getD np (0, 0)).2 = ct := ⟨_, rfl⟩
  obtain ⟨v, hv⟩ : ∃ v, (M.getD np []).getD col 0 = v := ⟨_, rfl⟩
  have k0 := hM.slice hnr
  have hctop := hcap np hnp
  have hgB := hB np hnp
  have hge := her np hnp
  have hgb := hM.nb np hnr
  rw [hgt, hct] at k0
  rw [hgt] at hcz hgB hge hgb
  rw [hct] at hctop
  rw [hv] at hcz hvz ⊢
  have HGT := Lib.hid hgt
  have HV := Lib.hid hv
  obtain ⟨inv, hinv⟩ : ∃ inv, invZ v p = inv := ⟨_, rfl⟩
  have hir := invZ_lt (a := v) (p := p) (by omega)
  have CV := Lib.hid (fun w => inverseZ v p w hvz.1 hvz.2 (by omega) hp2)
  rw [hinv] at hir CV
  obtain ⟨f, hfd⟩ : ∃ f : Nat → Int, f = fun x => (M.getD np []).getD x 0 * inv % p := ⟨_, rfl⟩
  have HF := Lib.hid hfd
  have HSC := Lib.hid (show scaleM p np col M = M.set np (mixL f (M.getD np []) 0 (M.getD np []).length) by
    unfold scaleM scaleRow
    rw [hv, hinv, mix_all, hfd])
  have HIR := Lib.hid hir
  have e0 := he.c 0
  have e1 := he.c 1
  have e2 := he.c 2
  have e3 := he.c 3
  have f3 := he.f 3
  have hnpi : (np : Int) < (n : Int) := by omega
  have hcolI : (col : Int) < (c : Int) := by omega
  obtain ⟨s1, s2, s3, s4⟩ := mul_step hp hp2 hf.1 hf.2 hvz.1 hvz.2
  obtain ⟨t1, ht1⟩ : ∃ t1, fac * v = t1 := ⟨_, rfl⟩
  rw [ht1] at s1 s2 s3 s4 ⊢
  obtain ⟨y, hy⟩ : ∃ y, t1 % p = y := ⟨_, rfl⟩
  rw [hy] at s2 s3 s4 ⊢
  have s1b : IntKind.i64.wrap (fac * v) = t1 := by rw [ht1]; exact s1
  have s6 : IntKind.i64.wrap y = y := IntWalk.i64_in _ (by omega)
  have s7 : IntKind.i64.wrap (t1.tmod p) = y := by rw [s2]; exact s6
  have hpne : ¬ p = 0 := by omega
  have hpb : (p == 0) = false := beq_eq_false_iff_ne.2 hpne
  have o1 := only_set1 w e 3 (.int .i64 y)
  have HE := Lib.hid (show VBlk (w.setCell ⟨e, 3, none⟩ (.int .i64 y)) e #[.int .i64 p, .slice (some ⟨b, 0, none⟩) n cn, .slice qo np qc, .int .i64 y] 59 from he.set 3 (.int .i64 y))
  have HM := Lib.hid (hM.only o1 (Ne.symm heb) (fun i hi => HER.out i (by rw [← HN.out]; exact hi)))
  have HBE := Lib.hid (Keeps.he (b := b) (rs := rs) hBe o1)
  clear hr hcap her hB hfd hinv hv hgt hct hn ht1 hy o1 he hM hrow hir hf hvz
  go_enter Tryz.func61, Tryz.ntmps61
  go_upto_region 0 with fail
  first | go_region | fail "r0"
  go_upto_region 1 with fail
  first | go_region | fail "r1"
  clear e0 e1 e2 e3 f3 k0 hcz s1 s2 s3 s4 s1b s6 s7
  generalize w.setCell ⟨e, 3, none⟩ (.int .i64 y) = V at *
  have e0 := HE.out.c 0
  have hrow := HM.out.row np (by rw [HN.out]; exact hnp)
  have hcz := hrow.1.c (j := col) (by rw [hrow.2]; exact hcol)
  rw [HV.out, HGT.out] at hcz
  have HS := Lib.hid (show ∀ wx, Only wx.heap.size V wx → wx.cell? ⟨e, 0, none⟩ = some (.int .i64 p) ∧ wx.cell? ⟨gt, col, none⟩ = some (.int .i64 v) from fun wx h => ⟨(World.cell?_of_block (w := V) (h.block e (by have := HE.out.lt; have := h.size; omega))).trans e0, (World.cell?_of_block (w := V) (h.block gt (by have := lt_of_cell hcz; have := h.size; omega))).trans hcz⟩)
  clear hrow
  go_upto_region 2 with fail
  first | (go_region_held3 (fun wx => wx.cell? ⟨e, 0, none⟩ = some (.int .i64 p) ∧ wx.cell? ⟨gt, col, none⟩ = some (.int .i64 v))
    (first | exact HS.out _ (by repeat (first | exact Only.refl _ _ | refine only_drew ?_)))
    (first | (go_at_call 43; refine (CV.out _).mono ?_; rintro e w9 ⟨rfl, rfl⟩))) | fail "r2"
  clear HS e0 hcz
  go_wp2
  go_loopw [6, 46] (fun _ xv wr => ∃ x : Nat, x ≤ c ∧ xv = .int .i64 (x : Int) ∧ VBlk wr e #[.int .i64 p, .slice (some ⟨b, 0, none⟩) n cn, .slice qo np qc, .int .i64 y] 59 ∧ Mat wr b rs c (M.set np (mixL f (M.getD np []) 0 x)) ∧ Keeps B e b rs w wr)
    (fun _ xv _ => c - (intOf xv).toNat)
  case atStart => exact ⟨0, Nat.zero_le _, rfl, HE.out, by rw [mix_zero, set_same]; exact HM.out.below (by repeat (first | exact Below.refl _ _ | refine Below.drew ?_)), by repeat (first | exact HBE.out | refine Keeps.drew ?_)⟩
  case round =>
    clear HE HM HBE
    obtain ⟨x, hx, rfl, he, hM, hbel⟩ := hrel
    have HBel := Lib.hid hbel
    clear hbel
    by_cases hxl : x < c
    · have hxi : (x : Int) < (c : Int) := by omega
      have hnr : np < rs.length := by rw [HN.out]; exact hnp
      have hnm : np < M.length := by rw [HLM.out]; exact hnp
      have hri := hM.row np hnr
      rw [set_at hnm] at hri
      have c1 := hri.1.c (j := x) (by rw [hri.2]; exact hxl)
      have q1 := hri.1.f x
      rw [mix_get f (M.getD np []) 0 x (by rw [HRL.out]; exact hxl), if_neg (Nat.lt_irrefl x)] at c1
      have b1 := HR.out.at hnm (j := x) (by rw [HRL.out]; exact hxl)
      have e0 := he.c 0
      have hput := hM.put hnr hxl (f x)
      rw [set_at hnm, List.set_set, mix_set f (M.getD np []) 0 (by rw [HRL.out]; exact hxl)] at hput
      have hon := only_set1 wr (rs.getD np (0, 0)).1 x (.int .i64 (f x))
      have hbo := Keeps.row (B := B) (e := e) (b := b) hnr (by rw [HGT.out]; exact hgB) hon
      have hfx : f x = (M.getD np []).getD x 0 * inv % p := by rw [HF.out]
      rw [HGT.out] at c1 q1 hput hon hbo
      have heo := he.only hon (Ne.symm hge)
      obtain ⟨v1, hv1⟩ : ∃ v1, (M.getD np []).getD x 0 = v1 := ⟨_, rfl⟩
      rw [hv1] at c1 b1 hfx
      obtain ⟨s1, s2, s3, s4⟩ := mul_step hp hp2 b1.1 b1.2 HIR.out.1 HIR.out.2
      obtain ⟨y2, hy⟩ : ∃ y2, f x = y2 := ⟨_, rfl⟩
      rw [hy] at hput hbo heo hfx
      obtain ⟨t2, ht2⟩ : ∃ t2, v1 * inv = t2 := ⟨_, rfl⟩
      rw [ht2] at s1 s2 s3 s4 hfx
      rw [← hfx] at s2 s3 s4
      have s1b : IntKind.i64.wrap (v1 * inv) = t2 := by rw [ht2]; exact s1
      have s6 : IntKind.i64.wrap y2 = y2 := IntWalk.i64_in _ (by omega)
      have s7 : IntKind.i64.wrap (t2.tmod p) = y2 := by rw [s2]; exact s6
      have HP := Lib.hid (And.intro hput (And.intro (Keeps.trans HBel.out hbo) heo))
      clear hnr hnm hri hput hon hbo heo hv1 hy ht2 hfx s3 s4 he hM
      go_upto_region 6 with fail
      first | go_region | fail "r6"
      go_wp2
      go_roundw
      case rel => first | exact ⟨x + 1, by omega, by go_num, HP.out.2.2, HP.out.1.below (Below.refl _ _).drew, HP.out.2.1.drew⟩ | exact ⟨x + 1, by omega, by go_num, HP.out.2.2, HP.out.1, HP.out.2.1⟩
      case measure => simp [intOf]; omega
    · obtain rfl : c = x := by omega
      have HFIN := Lib.hid (And.intro he (And.intro (show Mat wr b rs c (scaleM p np col M) from by rw [HSC.out, HRL.out]; exact hM) HBel.out))
      clear he hM
      go_wp2
      first | (refine bodyPost_ret (results_none rfl _ _ _) rfl ?_; exact ⟨⟨_, rfl⟩, HFIN.out.1, HFIN.out.2.1, HFIN.out.2.2⟩) | exact ⟨rfl, _, results_none rfl _ _ _, ⟨_, rfl⟩, HFIN.out.1, HFIN.out.2.1, HFIN.out.2.2⟩
end Go.Proofs.YthicfkeiggcjjaaGreatDoor
