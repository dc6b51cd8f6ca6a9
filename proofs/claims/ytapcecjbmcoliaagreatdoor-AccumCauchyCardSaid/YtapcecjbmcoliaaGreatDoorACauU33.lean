import Derived.Test.YtapcecjbmcoliaaGreatDoorACauU24
import Derived.Test.YtapcecjbmcoliaaGreatDoorACauU32
namespace Go.Proofs.YtapcecjbmcoliaaGreatDoor
open Go.RowKit

set_option maxRecDepth 100000 in
set_option maxHeartbeats 4000000 in
theorem dmul_any (u v : Value) (d d' : Dy) (w : World) (hu : Dg w u d) (hv : Dg w v d') (hT : Table w) (hs : blen (dm d).natAbs ≤ 3100 ∨ blen (dm d').natAbs ≤ 3100) :
    Calls Tryz.prog 8 #[u, v] w fun e w' => ∃ r, e = .returned r ∧ Dn w' r (dmul d d') ∧ Ext w w' := by
  have hu0 := hu
  have hv0 := hv
  obtain ⟨ub, un, uo, uk, uc, _, uf, rfl, -⟩ := hu0
  obtain ⟨vb, vn, vo, vk, vc, _, vf, rfl, -⟩ := hv0
  go_enter Tryz.func8, Tryz.ntmps8
  go_upto_region 1 with fail
  obtain ⟨W, hW, hB, hbx, hby, hrx, hz⟩ := boxes_ddd w ub un uo uk uc uf vb vn vo vk vc vf
  rw [← hW]
  clear hW
  have hu := hu.ext hB
  have hv := hv.ext hB
  have HT0 := Lib.hid hT
  have hT := hT.below hB
  generalize hBe : w.heap.size = B at *
  have HBe := Lib.hid hBe; clear hBe
  go_cut [] from 5 (fun wx => ∃ xb xn xo xk xc xe yb yn yo yk yc ye, Dn wx (.agg #[.bool xb, .bool xn, .slice xo xk xc, .int .i64 xe]) d ∧ Dn wx (.agg #[.bool yb, .bool yn, .slice yo yk yc, .int .i64 ye]) d' ∧
    DBox wx B xb xn xo xk xc xe ∧ DBox wx (B + 1) yb yn yo yk yc ye ∧ Below B w wx ∧ (∀ k, B + 1 < k → k < W.heap.size → wx.heap[k]? = W.heap[k]?) ∧ W.heap.size ≤ wx.heap.size)
  case first =>
    have k0 := hbx.c0
    have k1 := hbx.c1
    have k2 := hbx.c2
    have k3 := hbx.c3
    have l0 := hby.c0
    have l1 := hby.c1
    have l2 := hby.c2
    have l3 := hby.c3
    go_region_with (first
      | (go_at_call 21; refine (dnormal_any _ _ _ (by exact hu.ext (by exact (Below.refl _ _).drew)) (by exact hT.below (by exact (Below.refl _ _).drew))).mono ?_; rintro e w1 ⟨r1, rfl, hr1, hw1⟩; have ex1 : Ext W w1 := Ext.trans (by exact (Below.refl _ _).drew) hw1; obtain ⟨xb, xn, xo, xk, xc, xe, rfl⟩ := hr1.parts; have fb := hby.ext ex1; have h0 := fb.c0; have h1 := fb.c1; have h2 := fb.c2; have h3 := fb.c3)
      | (go_at_call 21; refine (dnormal_any _ _ _ (by exact hv.ext ex1) (by exact hT.below ex1)).mono ?_; rintro e w2 ⟨r2, rfl, hr2, hw2⟩; have ex2 : Ext W w2 := Ext.trans ex1 hw2; obtain ⟨yb, yn, yo, yk, yc, ye, rfl⟩ := hr2.parts; have hr1 := hr1.ext hw2; clear h0 h1 h2 h3; have fa := hbx.ext ex2; have fb := hby.ext ex2; have a0 := fa.c0; have a1 := fa.c1; have a2 := fa.c2; have a3 := fa.c3; have b0 := fb.c0; have b1 := fb.c1; have b2 := fb.c2; have b3 := fb.c3; have g0 := fa.f 0; have g1 := fa.f 1; have g2 := fa.f 2; have g3 := fa.f 3; have h0 := fb.f 0; have h1 := fb.f 1; have h2 := fb.f 2; have h3 := fb.f 3))
    all_goals
      go_wp2
      go_meet
    all_goals
      clear a0 a1 a2 a3 b0 b1 b2 b3 g0 g1 g2 g3 h0 h1 h2 h3 k0 k1 k2 k3 l0 l1 l2 l3
      obtain ⟨hB2, hB2'⟩ := bnext hB (by omega) ex2
      obtain ⟨Z, hZ, z1, z2, z3, z4, z5, z6, z7⟩ := two_dyads fa fb (by omega) (Nat.le_refl B) (Nat.le_succ B) hr1 hr2 hB2
      rw [← hZ]
      exact ⟨_, _, _, _, _, _, _, _, _, _, _, _, z1, z2, z4, z5, z3, fun k hk1 hk2 => by rw [z6 k (by omega) (by omega)]; exact Below.block ex2 k hk2, by rw [z7]; exact Below.size ex2⟩
  case rest =>
    obtain ⟨xb, xn, xo, xk, xc, xe, yb, yn, yo, yk, yc, ye, hx, hy, bx, bY, hB1, hkeep, hzc⟩ := hcut
    have hT1 := (show Table w from HT0.out).below (w' := wc) (by rw [HBe.out]; exact hB1)
    have hrx : DBox wc (B + 1 + 1) false false none 0 0 0 := by
      have := hrx
      unfold DBox at this ⊢
      rw [hkeep _ (by omega) (by omega)]; exact this
    have HT := Lib.hid hT1
    clear hT1 hbx hby hu hv hT hB hkeep
    have k0 := bx.c0
    have k1 := bx.c1
    have k2 := bx.c2
    have k3 := bx.c3
    have l0 := bY.c0
    have l1 := bY.c1
    have l2 := bY.c2
    have l3 := bY.c3
    cases d with
    | none =>
      obtain rfl := dn_none hx
      go_wp2_with fail
      refine (bad_any _).mono ?_
      rintro e w1 ⟨rfl, hw1⟩
      have c1 := hrx.below hw1
      obtain ⟨hB2, hB2'⟩ := bnext hB1 (by omega) hw1
      have q0 := c1.c0
      have q1 := c1.c1
      have q2 := c1.c2
      have q3 := c1.c3
      have f0 := c1.f 0
      have f1 := c1.f 1
      have f2 := c1.f 2
      have f3 := c1.f 3
      have hres := dn_stored c1 (dn_bad w1) w hB2 (by omega)
      have z3 := c1.stored true false none 0 0 0
      have z0 := z3.c0
      have z1 := z3.c1
      have z2 := z3.c2
      have z4 := z3.c3
      have HRES := Lib.hid hres; clear hres z3
      go_wp2
      refine bodyPost_ret (v := .agg #[.bool true, .bool false, .slice none 0 0, .int .i64 0]) (by simp [results, Tryz.results8, go_sem, z0, z1, z2, z4]) rfl ⟨_, rfl, ?_, ?_⟩
      · exact HRES.out.1
      · show Below _ _ _; rw [HBe.out]; exact HRES.out.2
    | some p =>
      obtain ⟨m, f⟩ := p
      obtain ⟨rfl, rfl, hm⟩ := dn_some hx
      cases d' with
      | none =>
        obtain rfl := dn_none hy
        go_wp2_with fail
        refine (bad_any _).mono ?_
        rintro e w1 ⟨rfl, hw1⟩
        have c1 := hrx.below hw1
        obtain ⟨hB2, hB2'⟩ := bnext hB1 (by omega) hw1
        have q0 := c1.c0
        have q1 := c1.c1
        have q2 := c1.c2
        have q3 := c1.c3
        have f0 := c1.f 0
        have f1 := c1.f 1
        have f2 := c1.f 2
        have f3 := c1.f 3
        have hres := dn_stored c1 (dn_bad w1) w hB2 (by omega)
        have z3 := c1.stored true false none 0 0 0
        have z0 := z3.c0
        have z1 := z3.c1
        have z2 := z3.c2
        have z4 := z3.c3
        have HRES := Lib.hid hres; clear hres z3
        go_wp2
        refine bodyPost_ret (v := .agg #[.bool true, .bool false, .slice none 0 0, .int .i64 0]) (by simp [results, Tryz.results8, go_sem, z0, z1, z2, z4]) rfl ⟨_, rfl, ?_, ?_⟩
        · exact HRES.out.1
        · show Below _ _ _; rw [HBe.out]; exact HRES.out.2
      | some q =>
        obtain ⟨m', f'⟩ := q
        obtain ⟨rfl, rfl, hm'⟩ := dn_some hy
        have hnx := nd_blen hx.1
        have hny := nd_blen hy.1
        simp only [dm, dx, Option.getD_some] at hnx hny hs
        obtain ⟨hnx, hx0, hx1⟩ := hnx
        obtain ⟨hny, hy0, hy1⟩ := hny
        have h100 : xk < 100 ∨ yk < 100 := by
          rcases hs with hs | hs
          · left; rw [← hm.sl.len]; have := limbs_of_blen (a := m.natAbs) (k := 97) (by omega); omega
          · right; rw [← hm'.sl.len]; have := limbs_of_blen (a := m'.natAbs) (k := 97) (by omega); omega
        have gm := bn_bg_of hm (by omega)
        have gm' := bn_bg_of hm' (by omega)
        clear hx hy hm hm' hs
        have hcells : ∀ wx, Ext wc wx → (wx.cell? ⟨B, 1, none⟩ = some (.bool xn) ∧ wx.cell? ⟨B, 2, none⟩ = some (.slice xo xk xc) ∧ wx.cell? ⟨B, 3, none⟩ = some (.int .i64 xe)) ∧
            (wx.cell? ⟨B + 1, 1, none⟩ = some (.bool yn) ∧ wx.cell? ⟨B + 1, 2, none⟩ = some (.slice yo yk yc) ∧ wx.cell? ⟨B + 1, 3, none⟩ = some (.int .i64 ye)) := fun wx h =>
          ⟨⟨(bx.ext h).c1, (bx.ext h).c2, (bx.ext h).c3⟩, ⟨(bY.ext h).c1, (bY.ext h).c2, (bY.ext h).c3⟩⟩
        have HC := Lib.hid hcells; clear hcells
        have ex0 : Ext wc wc.drew := (Below.refl _ _).drew
        have hwr : IntKind.i64.wrap (xe + ye) = xe + ye := IntWalk.i64_in _ ⟨by omega, by omega⟩
        go_upto_region 4 with fail
        go_region_held3 (fun wx => (wx.cell? ⟨B, 1, none⟩ = some (.bool xn) ∧ wx.cell? ⟨B, 2, none⟩ = some (.slice xo xk xc) ∧ wx.cell? ⟨B, 3, none⟩ = some (.int .i64 xe)) ∧
            (wx.cell? ⟨B + 1, 1, none⟩ = some (.bool yn) ∧ wx.cell? ⟨B + 1, 2, none⟩ = some (.slice yo yk yc) ∧ wx.cell? ⟨B + 1, 3, none⟩ = some (.int .i64 ye)))
          (first | exact HC.out _ (by assumption) | (refine ⟨⟨?_, ?_, ?_⟩, ?_, ?_, ?_⟩ <;> go_simp))
          (first
            | (go_at_call 29; refine (mul_any _ _ _ _ _ _ _ _ _ _ _ (by exact gm.drew) (by exact gm'.drew) h100).mono ?_; rintro e w1 ⟨nr, ro, l, cr, rfl, hr, hw1⟩; have ex1 : Ext wc w1 := ex0.trans hw1)
            | (go_at_call 28; refine (dreduce_any _ _ _ _ _ _ _ (bn_bg_of hr (by have := blen_mul_le m m'; omega)) (by omega) (by omega) (HT.out.below ex1)).mono ?_; rintro e w2 ⟨r, rfl, hr2, hw2⟩; have ex2 : Ext wc w2 := ex1.trans hw2; obtain ⟨rb, rn, ro2, rk, rc, re, rfl⟩ := hr2.parts; have c2 := hrx.ext ex2; have q0 := c2.c0; have q1 := c2.c1; have q2 := c2.c2; have q3 := c2.c3; have f0 := c2.f 0; have f1 := c2.f 1; have f2 := c2.f 2; have f3 := c2.f 3; obtain ⟨⟨a1, a2, a3⟩, b1, b2, b3⟩ := HC.out _ ex2))
        have hB2 : Below B w w2 := (bnext hB1 (by omega) ex2).1
        have hres := dn_stored c2 hr2 w hB2 (by omega)
        have z3 := c2.stored rb rn ro2 rk rc re
        have z0 := z3.c0
        have z1 := z3.c1
        have z2 := z3.c2
        have z4 := z3.c3
        have HRES := Lib.hid hres; clear hres z3
        go_wp2
        refine bodyPost_ret (v := .agg #[.bool rb, .bool rn, .slice ro2 rk rc, .int .i64 re]) (by simp [results, Tryz.results8, go_sem, z0, z1, z2, z4]) rfl ⟨_, rfl, ?_, ?_⟩
        · exact HRES.out.1
        · show Below _ _ _; rw [HBe.out]; exact HRES.out.2
end Go.Proofs.YtapcecjbmcoliaaGreatDoor

namespace Go.Proofs.YtapcecjbmcoliaaGreatDoor
open Go Go.RowKit

/-- a total and its error: zero and an error where it is none -/
def chk (d : Dy) : Dy := if d = none then some (0, 0) else d
def chkE (d : Dy) : Int := if d = none then 4 else 0

set_option maxRecDepth 100000 in
set_option maxHeartbeats 4000000 in
theorem checked_any (v : Value) (d : Dy) (w : World) (hv : Dn w v d) :
    Calls Tryz.prog 19 #[v] w fun e w' => ∃ r, e = .returned (.tuple #[r, .int .i64 (chkE d)]) ∧ Dn w' r (chk d) ∧ Ext w w' := by
  obtain ⟨ub, un, uo, uk, uc, uf, rfl⟩ := hv.parts
  go_enter Tryz.func19, Tryz.ntmps19
  go_upto_region 1 with fail
  obtain ⟨W, hW, hB, hbx, hrx, hz⟩ := boxes_dd w ub un uo uk uc uf
  rw [← hW]
  clear hW
  have hv := hv.ext hB
  generalize hBe : w.heap.size = B at *
  have HBe := Lib.hid hBe; clear hBe
  have k0 := hbx.c0
  have k1 := hbx.c1
  have k2 := hbx.c2
  have k3 := hbx.c3
  have q0 := hrx.c0
  have q1 := hrx.c1
  have q2 := hrx.c2
  have q3 := hrx.c3
  have f0 := hrx.f 0
  have f1 := hrx.f 1
  have f2 := hrx.f 2
  have f3 := hrx.f 3
  obtain ⟨g1, -, -⟩ := hv.get
  cases d with
  | none =>
    obtain rfl : ub = true := g1
    have hres := dn_stored hrx (dn_zero W) w hB (Nat.le_succ B)
    have z3 := hrx.stored false false none 0 0 0
    have z0 := z3.c0
    have z1 := z3.c1
    have z2 := z3.c2
    have z4 := z3.c3
    have HRES := Lib.hid hres; clear hres z3
    go_wp2
    refine bodyPost_ret (v := .tuple #[.agg #[.bool false, .bool false, .slice none 0 0, .int .i64 0], .int .i64 4]) (by simp [results, Tryz.results19, go_sem, z0, z1, z2, z4]) rfl ⟨_, rfl, HRES.out.1, ?_⟩
    show Below _ _ _; rw [HBe.out]; exact HRES.out.2
  | some q =>
    obtain rfl : ub = false := g1
    have hres := dn_stored hrx hv w hB (Nat.le_succ B)
    have z3 := hrx.stored false un uo uk uc uf
    have z0 := z3.c0
    have z1 := z3.c1
    have z2 := z3.c2
    have z4 := z3.c3
    have HRES := Lib.hid hres; clear hres z3
    go_wp2
    refine bodyPost_ret (v := .tuple #[.agg #[.bool false, .bool un, .slice uo uk uc, .int .i64 uf], .int .i64 0]) (by simp [results, Tryz.results19, go_sem, z0, z1, z2, z4]) rfl ⟨_, rfl, HRES.out.1, ?_⟩
    show Below _ _ _; rw [HBe.out]; exact HRES.out.2

/-- the products of the elements with the same index -/
def prods (x y : List Nat) : List Dy := List.zipWith (fun a b => dmul (fdy a) (fdy b)) x y
theorem prods_getD {x y : List Nat} {j : Nat} (hx : j < x.length) (hy : j < y.length) : (prods x y).getD j none = dmul (fdy (x.getD j 0)) (fdy (y.getD j 0)) := by
  unfold prods
  simp [List.getD, List.getElem?_zipWith, hx, hy]

set_option maxRecDepth 100000 in
set_option maxHeartbeats 8000000 in
theorem adot_any (ao bo : Option Addr) (n cap cb : Nat) (x y : List Nat) (w : World) (h : Fs w ao n cap x) (h' : Fs w bo n cb y) (hT : Table w) (hT6 : Table64 w) (hn : n ≤ 1000000) :
    Calls Tryz.prog 6 #[.slice ao n cap, .slice bo n cb] w fun e w' => ∃ r, e = .returned (.tuple #[r, .int .i64 (chkE (dtotal (prods x y)))]) ∧ Dn w' r (chk (dtotal (prods x y))) ∧ Ext w w' := by
  have HL := Lib.hid h.len
  have HL' := Lib.hid h'.len
  have HH := Lib.hid h
  have HH' := Lib.hid h'
  clear h h'
  obtain ⟨D, hD⟩ : ∃ D, prods x y = D := ⟨_, rfl⟩
  have hDl : D.length = n := by rw [← hD]; unfold prods; rw [List.length_zipWith, HL.out, HL'.out, Nat.min_self]
  have HDL := Lib.hid hDl; clear hDl
  rw [hD]
  have HD := Lib.hid hD; clear hD
  go_enter Tryz.func6, Tryz.ntmps6
  go_upto_region 1 with fail
  obtain ⟨W, hW, hB, hbx, hz⟩ := dbox_new w false false none 0 0 0
  rw [← hW]
  clear hW
  have HT := Lib.hid hT; clear hT
  have HT6 := Lib.hid hT6; clear hT6
  generalize hBe : w.heap.size = B at *
  have HBe := Lib.hid hBe
  have HEX : ∀ wx, Below B w wx → Ext w wx := fun wx h => by rw [← hBe] at h; exact h
  have HEX := Lib.hid HEX
  clear hBe
  go_wp2_with (refine wpList_make_dyads _ rfl _ _ rfl _ _ n n rfl rfl rfl rfl (by omega) (by omega) ?_)
  intro w1 hdb hw1 hsz1
  obtain ⟨hE, hE'⟩ := bnext hB (by omega) hw1
  have hbx := hbx.below hw1
  have hgB : B < W.heap.size := by omega
  generalize W.heap.size = g at *
  have htb : Tb w1 g n (List.replicate n DP.zero) 0 D := ⟨hdb, by simp, Nat.zero_le _, fun i hi => absurd hi (Nat.not_lt_zero _)⟩
  clear hB hw1 hz hsz1 hdb
  go_wp2
  go_loopw [7, 8, 20] (fun _ _ ix wr => ∃ (j : Nat) (L : List DP), j ≤ n ∧ ix = .int .i64 j ∧ Tb wr g n L j D ∧ Below B w wr ∧ DBox wr B false false none 0 0 0)
    (fun _ _ ix _ => n - (intOf ix).toNat)
  case atStart => exact ⟨0, _, Nat.zero_le _, rfl, htb, hE, hbx⟩
  case round =>
    obtain ⟨j, L, hj, rfl, htb, hE, hbr⟩ := hrel
    have hgl := htb.db.lt
    have hbl := hbr.lt
    by_cases hlt : j < n
    · have h := HH.out.below (HEX.out _ hE)
      have h' := HH'.out.below (HEX.out _ hE)
      obtain ⟨b, off, rfl, hc⟩ := h.cells (by omega)
      obtain ⟨b', off', rfl, hc'⟩ := h'.cells (by omega)
      have hcj := hc j hlt
      have hcj' := hc' j hlt
      have hfl := h.getD_lt j
      have hfl' := h'.getD_lt j
      have hmap := prods_getD (x := x) (y := y) (j := j) (by rw [HL.out]; exact hlt) (by rw [HL'.out]; exact hlt)
      rw [HD.out] at hmap
      obtain ⟨p, hp⟩ : ∃ p, x.getD j 0 = p := ⟨_, rfl⟩
      obtain ⟨q, hq⟩ : ∃ q, y.getD j 0 = q := ⟨_, rfl⟩
      rw [hp] at hcj hfl hmap
      rw [hq] at hcj' hfl' hmap
      obtain ⟨dp, hdp⟩ : ∃ d, fdy p = d := ⟨_, rfl⟩
      obtain ⟨dq, hdq⟩ : ∃ d, fdy q = d := ⟨_, rfl⟩
      have hsm := fdy_small p
      rw [hdp] at hmap hsm
      rw [hdq] at hmap
      have HM := Lib.hid hmap
      have HDP := Lib.hid hdp
      have HDQ := Lib.hid hdq
      have HSM := Lib.hid hsm
      have HCQ : ∀ wx, Ext wr wx → wx.cell? ⟨b', off' + j, none⟩ = some (.int .u64 (q : Int)) := fun wx hx => by
        rw [hx.cell (p := ⟨b', off' + j, none⟩) (lt_of_cell hcj')]; exact hcj'
      have HCQ := Lib.hid HCQ
      clear hc hc' h h' hp hq hmap hdp hdq hsm
      go_upto_region 7 with fail
      obtain ⟨V, hVe⟩ : ∃ V, V = wr := ⟨_, rfl⟩
      subst hVe
      have e5 : j * 4 = 4 * j := by omega
      have hex : Ext V V.drew := (Below.refl _ _).drew
      have C1 := Lib.hid (fun wx (hx : Ext V wx) => fof_at (f := p) hfl HDP.out wx (HT6.out.below (Ext.trans (HEX.out _ hE) hx)))
      have C2 := Lib.hid (fun wx (hx : Ext V wx) => fof_at (f := q) hfl' HDQ.out wx (HT6.out.below (Ext.trans (HEX.out _ hE) hx)))
      have HTV : ∀ wx, Ext V wx → Table wx := fun wx hx => HT.out.below (Ext.trans (HEX.out _ hE) hx)
      have HTV := Lib.hid HTV
      go_region_with (first
        | (go_at_call 18; (with_reducible refine (C1.out _ (by assumption)).mono ?_); rintro e w1 ⟨v1, rfl, hv1, hw1⟩; have ex1 : Ext V w1 := Ext.trans hex hw1; have cq := HCQ.out w1 ex1)
        | (go_at_call 18; (with_reducible refine (C2.out _ (by assumption)).mono ?_); rintro e w2 ⟨v2, rfl, hv2, hw2⟩; have ex2 : Ext V w2 := Ext.trans ex1 hw2; have hv1 := hv1.ext hw2)
        | (go_at_call 8; refine (dmul_any _ _ _ _ _ hv1.dg hv2.dg (by exact HTV.out _ ex2) (Or.inl HSM.out)).mono ?_; rintro e w3 ⟨v3, rfl, hv3, hw3⟩; have ex3 : Ext V w3 := Ext.trans ex2 hw3; obtain ⟨rb, rn, ro, rk, rc, re, rfl⟩ := hv3.parts; have tb3 := htb.below ex3; obtain ⟨c0, c1, c2, c3⟩ := tb3.db.c j (by rw [tb3.len]; exact hlt); have f0 := tb3.db.f (4 * j); have f1 := tb3.db.f (4 * j + 1); have f2 := tb3.db.f (4 * j + 2); have f3 := tb3.db.f (4 * j + 3)))
      all_goals go_wp2
      all_goals
        have hset := tb3.set (p := ⟨rb, rn, ro, rk, rc, re⟩) (by rw [HM.out]; exact hv3) hlt
        have ho := only_set4' w3 g (4 * j) ⟨rb, rn, ro, rk, rc, re⟩
        have hE3 := (hE.trans (ex3.mono (by omega))).trans (ho.below (B := B) (by omega))
        have hbr3 := (hbr.below ex3).only ho (by omega)
        trace_state
        exact ⟨⟨j + 1, _, by omega, by go_num, hset, hE3, hbr3⟩, by simp [intOf] <;> omega⟩
    · obtain rfl : j = n := by omega
      have hdsl := htb.sl HDL.out
      have C := Lib.hid (dsum_any _ _ _ _ _ wr hdsl (HT.out.below (HEX.out _ hE)) (by omega))
      clear hdsl
      go_wp2_with fail
      refine C.out.mono ?_
      rintro e w4 ⟨v, rfl, hv, hw4⟩
      have hbr := hbr.below hw4
      obtain ⟨hE, hE'⟩ := bnext hE (by omega) hw4
      go_wp2_with fail
      refine (checked_any _ _ _ hv).mono ?_
      rintro e w5 ⟨v, rfl, hv, hw5⟩
      obtain ⟨rb, rn, ro2, rk, rc, re, rfl⟩ := hv.parts
      have bx := hbr.below hw5
      obtain ⟨hE4, hE4'⟩ := bnext hE hE' hw5
      clear hbr hE hw4 hw5 htb
      have q0 := bx.c0
      have q1 := bx.c1
      have q2 := bx.c2
      have q3 := bx.c3
      have f0 := bx.f 0
      have f1 := bx.f 1
      have f2 := bx.f 2
      have f3 := bx.f 3
      have hres := dn_stored bx hv w hE4 (Nat.le_refl B)
      have z3 := bx.stored rb rn ro2 rk rc re
      have z0 := z3.c0
      have z1 := z3.c1
      have z2 := z3.c2
      have z4 := z3.c3
      have HRES := Lib.hid hres; clear hres z3
      go_wp2
      refine bodyPost_ret (v := .tuple #[.agg #[.bool rb, .bool rn, .slice ro2 rk rc, .int .i64 re], .int .i64 _]) (by simp [results, Tryz.results6, go_sem, z0, z1, z2, z4]) rfl ⟨_, rfl, HRES.out.1, ?_⟩
      show Below _ _ _; rw [HBe.out]; exact HRES.out.2
end Go.Proofs.YtapcecjbmcoliaaGreatDoor
