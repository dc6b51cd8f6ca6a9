import Derived.Test.YtolghagbpnjpgaaGreatDoorANormU21
import Derived.Test.YtolghagbpnjpgaaGreatDoorANormU26
import Derived.Test.YtolghagbpnjpgaaGreatDoorANormU23
import Derived.Test.YtolghagbpnjpgaaGreatDoorANormU18
namespace Go.Proofs.YtolghagbpnjpgaaGreatDoor
open Go.RowKit

set_option maxRecDepth 100000 in
set_option maxHeartbeats 4000000 in
theorem dmul_any (u v : Value) (d d' : Dy) (w : World) (hu : Dg w u d) (hv : Dg w v d') (hT : Table w) (hs : blen (dm d).natAbs ≤ 3100 ∨ blen (dm d').natAbs ≤ 3100) :
    Calls Tryz.prog 175 #[u, v] w fun e w' => ∃ r, e = .returned r ∧ Dn w' r (dmul d d') ∧ Ext w w' := by
  have hu0 := hu
  have hv0 := hv
  obtain ⟨ub, un, uo, uk, uc, _, uf, rfl, -⟩ := hu0
  obtain ⟨vb, vn, vo, vk, vc, _, vf, rfl, -⟩ := hv0
  go_enter Tryz.func175, Tryz.ntmps175
  go_upto_region 1 with fail
  obtain ⟨W, hW, hB, hbx, hby, hrx, hz⟩ := boxes_ddd w ub un uo uk uc uf vb vn vo vk vc vf
  rw [← hW]
  clear hW
  have hu := hu.ext hB
  have hv := hv.ext hB
  have HT0 := Lib.hid hT
  have hT := hT.below hB
  generalize hBe : w.heap.size = B at *
  have HBe := Lib.hid hBe; clear hBe
  go_cut [] from 5 (fun wx => ∃ xb xn xo xk xc xe yb yn yo yk yc ye, Dn wx (.agg #[.bool xb, .bool xn, .slice xo xk xc, .int .i64 xe]) d ∧ Dn wx (.agg #[.bool yb, .bool yn, .slice yo yk yc, .int .i64 ye]) d' ∧
    DBox wx B xb xn xo xk xc xe ∧ DBox wx (B + 1) yb yn yo yk yc ye ∧ Below B w wx ∧ (∀ k, B + 1 < k → k < W.heap.size → wx.heap[k]? = W.heap[k]?) ∧ W.heap.size ≤ wx.heap.size)
  case first =>
    have k0 := hbx.c0
    have k1 := hbx.c1
    have k2 := hbx.c2
    have k3 := hbx.c3
    have l0 := hby.c0
    have l1 := hby.c1
    have l2 := hby.c2
    have l3 := hby.c3
    go_region_with (first
      | (go_at_call 207; refine (dnormal_any _ _ _ (by exact hu.ext (by exact (Below.refl _ _).drew)) (by exact hT.below (by exact (Below.refl _ _).drew))).mono ?_; rintro e w1 ⟨r1, rfl, hr1, hw1⟩; have ex1 : Ext W w1 := Ext.trans (by exact (Below.refl _ _).drew) hw1; obtain ⟨xb, xn, xo, xk, xc, xe, rfl⟩ := hr1.parts; have fb := hby.ext ex1; have h0 := fb.c0; have h1 := fb.c1; have h2 := fb.c2; have h3 := fb.c3)
      | (go_at_call 207; refine (dnormal_any _ _ _ (by exact hv.ext ex1) (by exact hT.below ex1)).mono ?_; rintro e w2 ⟨r2, rfl, hr2, hw2⟩; have ex2 : Ext W w2 := Ext.trans ex1 hw2; obtain ⟨yb, yn, yo, yk, yc, ye, rfl⟩ := hr2.parts; have hr1 := hr1.ext hw2; clear h0 h1 h2 h3; have fa := hbx.ext ex2; have fb := hby.ext ex2; have a0 := fa.c0; have a1 := fa.c1; have a2 := fa.c2; have a3 := fa.c3; have b0 := fb.c0; have b1 := fb.c1; have b2 := fb.c2; have b3 := fb.c3; have g0 := fa.f 0; have g1 := fa.f 1; have g2 := fa.f 2; have g3 := fa.f 3; have h0 := fb.f 0; have h1 := fb.f 1; have h2 := fb.f 2; have h3 := fb.f 3))
    all_goals
      go_wp2
      go_meet
    all_goals
      clear a0 a1 a2 a3 b0 b1 b2 b3 g0 g1 g2 g3 h0 h1 h2 h3 k0 k1 k2 k3 l0 l1 l2 l3
      obtain ⟨hB2, hB2'⟩ := bnext hB (by omega) ex2
      obtain ⟨Z, hZ, z1, z2, z3, z4, z5, z6, z7⟩ := two_dyads fa fb (by omega) (Nat.le_refl B) (Nat.le_succ B) hr1 hr2 hB2
      rw [← hZ]
      exact ⟨_, _, _, _, _, _, _, _, _, _, _, _, z1, z2, z4, z5, z3, fun k hk1 hk2 => by rw [z6 k (by omega) (by omega)]; exact Below.block ex2 k hk2, by rw [z7]; exact Below.size ex2⟩
  case rest =>
    obtain ⟨xb, xn, xo, xk, xc, xe, yb, yn, yo, yk, yc, ye, hx, hy, bx, bY, hB1, hkeep, hzc⟩ := hcut
    have hT1 := (show Table w from HT0.out).below (w' := wc) (by rw [HBe.out]; exact hB1)
    have hrx : DBox wc (B + 1 + 1) false false none 0 0 0 := by
      have := hrx
      unfold DBox at this ⊢
      rw [hkeep _ (by omega) (by omega)]; exact this
    have HT := Lib.hid hT1
    clear hT1 hbx hby hu hv hT hB hkeep
    have k0 := bx.c0
    have k1 := bx.c1
    have k2 := bx.c2
    have k3 := bx.c3
    have l0 := bY.c0
    have l1 := bY.c1
    have l2 := bY.c2
    have l3 := bY.c3
    cases d with
    | none =>
      obtain rfl := dn_none hx
      go_wp2_with fail
      refine (bad_any _).mono ?_
      rintro e w1 ⟨rfl, hw1⟩
      have c1 := hrx.below hw1
      obtain ⟨hB2, hB2'⟩ := bnext hB1 (by omega) hw1
      have q0 := c1.c0
      have q1 := c1.c1
      have q2 := c1.c2
      have q3 := c1.c3
      have f0 := c1.f 0
      have f1 := c1.f 1
      have f2 := c1.f 2
      have f3 := c1.f 3
      have hres := dn_stored c1 (dn_bad w1) w hB2 (by omega)
      have z3 := c1.stored true false none 0 0 0
      have z0 := z3.c0
      have z1 := z3.c1
      have z2 := z3.c2
      have z4 := z3.c3
      have HRES := Lib.hid hres; clear hres z3
      go_wp2
      refine bodyPost_ret (v := .agg #[.bool true, .bool false, .slice none 0 0, .int .i64 0]) (by simp [results, Tryz.results175, go_sem, z0, z1, z2, z4]) rfl ⟨_, rfl, ?_, ?_⟩
      · exact HRES.out.1
      · show Below _ _ _; rw [HBe.out]; exact HRES.out.2
    | some p =>
      obtain ⟨m, f⟩ := p
      obtain ⟨rfl, rfl, hm⟩ := dn_some hx
      cases d' with
      | none =>
        obtain rfl := dn_none hy
        go_wp2_with fail
        refine (bad_any _).mono ?_
        rintro e w1 ⟨rfl, hw1⟩
        have c1 := hrx.below hw1
        obtain ⟨hB2, hB2'⟩ := bnext hB1 (by omega) hw1
        have q0 := c1.c0
        have q1 := c1.c1
        have q2 := c1.c2
        have q3 := c1.c3
        have f0 := c1.f 0
        have f1 := c1.f 1
        have f2 := c1.f 2
        have f3 := c1.f 3
        have hres := dn_stored c1 (dn_bad w1) w hB2 (by omega)
        have z3 := c1.stored true false none 0 0 0
        have z0 := z3.c0
        have z1 := z3.c1
        have z2 := z3.c2
        have z4 := z3.c3
        have HRES := Lib.hid hres; clear hres z3
        go_wp2
        refine bodyPost_ret (v := .agg #[.bool true, .bool false, .slice none 0 0, .int .i64 0]) (by simp [results, Tryz.results175, go_sem, z0, z1, z2, z4]) rfl ⟨_, rfl, ?_, ?_⟩
        · exact HRES.out.1
        · show Below _ _ _; rw [HBe.out]; exact HRES.out.2
      | some q =>
        obtain ⟨m', f'⟩ := q
        obtain ⟨rfl, rfl, hm'⟩ := dn_some hy
        have hnx := nd_blen hx.1
        have hny := nd_blen hy.1
        simp only [dm, dx, Option.getD_some] at hnx hny hs
        obtain ⟨hnx, hx0, hx1⟩ := hnx
        obtain ⟨hny, hy0, hy1⟩ := hny
        have h100 : xk < 100 ∨ yk < 100 := by
          rcases hs with hs | hs
          · left; rw [← hm.sl.len]; have := limbs_of_blen (a := m.natAbs) (k := 97) (by omega); omega
          · right; rw [← hm'.sl.len]; have := limbs_of_blen (a := m'.natAbs) (k := 97) (by omega); omega
        have gm := bn_bg_of hm (by omega)
        have gm' := bn_bg_of hm' (by omega)
        clear hx hy hm hm' hs
        have hcells : ∀ wx, Ext wc wx → (wx.cell? ⟨B, 1, none⟩ = some (.bool xn) ∧ wx.cell? ⟨B, 2, none⟩ = some (.slice xo xk xc) ∧ wx.cell? ⟨B, 3, none⟩ = some (.int .i64 xe)) ∧
            (wx.cell? ⟨B + 1, 1, none⟩ = some (.bool yn) ∧ wx.cell? ⟨B + 1, 2, none⟩ = some (.slice yo yk yc) ∧ wx.cell? ⟨B + 1, 3, none⟩ = some (.int .i64 ye)) := fun wx h =>
          ⟨⟨(bx.ext h).c1, (bx.ext h).c2, (bx.ext h).c3⟩, ⟨(bY.ext h).c1, (bY.ext h).c2, (bY.ext h).c3⟩⟩
        have HC := Lib.hid hcells; clear hcells
        have ex0 : Ext wc wc.drew := (Below.refl _ _).drew
        have hwr : IntKind.i64.wrap (xe + ye) = xe + ye := IntWalk.i64_in _ ⟨by omega, by omega⟩
        go_upto_region 4 with fail
        go_region_held3 (fun wx => (wx.cell? ⟨B, 1, none⟩ = some (.bool xn) ∧ wx.cell? ⟨B, 2, none⟩ = some (.slice xo xk xc) ∧ wx.cell? ⟨B, 3, none⟩ = some (.int .i64 xe)) ∧
            (wx.cell? ⟨B + 1, 1, none⟩ = some (.bool yn) ∧ wx.cell? ⟨B + 1, 2, none⟩ = some (.slice yo yk yc) ∧ wx.cell? ⟨B + 1, 3, none⟩ = some (.int .i64 ye)))
          (first | exact HC.out _ (by assumption) | (refine ⟨⟨?_, ?_, ?_⟩, ?_, ?_, ?_⟩ <;> go_simp))
          (first
            | (go_at_call 213; refine (mul_any _ _ _ _ _ _ _ _ _ _ _ (by exact gm.drew) (by exact gm'.drew) h100).mono ?_; rintro e w1 ⟨nr, ro, l, cr, rfl, hr, hw1⟩; have ex1 : Ext wc w1 := ex0.trans hw1)
            | (go_at_call 143; refine (dreduce_any _ _ _ _ _ _ _ (bn_bg_of hr (by have := blen_mul_le m m'; omega)) (by omega) (by omega) (HT.out.below ex1)).mono ?_; rintro e w2 ⟨r, rfl, hr2, hw2⟩; have ex2 : Ext wc w2 := ex1.trans hw2; obtain ⟨rb, rn, ro2, rk, rc, re, rfl⟩ := hr2.parts; have c2 := hrx.ext ex2; have q0 := c2.c0; have q1 := c2.c1; have q2 := c2.c2; have q3 := c2.c3; have f0 := c2.f 0; have f1 := c2.f 1; have f2 := c2.f 2; have f3 := c2.f 3; obtain ⟨⟨a1, a2, a3⟩, b1, b2, b3⟩ := HC.out _ ex2))
        have hB2 : Below B w w2 := (bnext hB1 (by omega) ex2).1
        have hres := dn_stored c2 hr2 w hB2 (by omega)
        have z3 := c2.stored rb rn ro2 rk rc re
        have z0 := z3.c0
        have z1 := z3.c1
        have z2 := z3.c2
        have z4 := z3.c3
        have HRES := Lib.hid hres; clear hres z3
        go_wp2
        refine bodyPost_ret (v := .agg #[.bool rb, .bool rn, .slice ro2 rk rc, .int .i64 re]) (by simp [results, Tryz.results175, go_sem, z0, z1, z2, z4]) rfl ⟨_, rfl, ?_, ?_⟩
        · exact HRES.out.1
        · show Below _ _ _; rw [HBe.out]; exact HRES.out.2
end Go.Proofs.YtolghagbpnjpgaaGreatDoor

namespace Go.Proofs.YtolghagbpnjpgaaGreatDoor
open Go Go.RowKit

/-- a total and its error: zero and an error where it is none -/
def chk (d : Dy) : Dy := if d = none then some (0, 0) else d
def chkE (d : Dy) : Int := if d = none then 4 else 0

set_option maxRecDepth 100000 in
set_option maxHeartbeats 4000000 in
theorem checked_any (v : Value) (d : Dy) (w : World) (hv : Dn w v d) :
    Calls Tryz.prog 176 #[v] w fun e w' => ∃ r, e = .returned (.tuple #[r, .int .i64 (chkE d)]) ∧ Dn w' r (chk d) ∧ Ext w w' := by
  obtain ⟨ub, un, uo, uk, uc, uf, rfl⟩ := hv.parts
  go_enter Tryz.func176, Tryz.ntmps176
  go_upto_region 1 with fail
  obtain ⟨W, hW, hB, hbx, hrx, hz⟩ := boxes_dd w ub un uo uk uc uf
  rw [← hW]
  clear hW
  have hv := hv.ext hB
  generalize hBe : w.heap.size = B at *
  have HBe := Lib.hid hBe; clear hBe
  have k0 := hbx.c0
  have k1 := hbx.c1
  have k2 := hbx.c2
  have k3 := hbx.c3
  have q0 := hrx.c0
  have q1 := hrx.c1
  have q2 := hrx.c2
  have q3 := hrx.c3
  have f0 := hrx.f 0
  have f1 := hrx.f 1
  have f2 := hrx.f 2
  have f3 := hrx.f 3
  obtain ⟨g1, -, -⟩ := hv.get
  cases d with
  | none =>
    obtain rfl : ub = true := g1
    have hres := dn_stored hrx (dn_zero W) w hB (Nat.le_succ B)
    have z3 := hrx.stored false false none 0 0 0
    have z0 := z3.c0
    have z1 := z3.c1
    have z2 := z3.c2
    have z4 := z3.c3
    have HRES := Lib.hid hres; clear hres z3
    go_wp2
    refine bodyPost_ret (v := .tuple #[.agg #[.bool false, .bool false, .slice none 0 0, .int .i64 0], .int .i64 4]) (by simp [results, Tryz.results176, go_sem, z0, z1, z2, z4]) rfl ⟨_, rfl, HRES.out.1, ?_⟩
    show Below _ _ _; rw [HBe.out]; exact HRES.out.2
  | some q =>
    obtain rfl : ub = false := g1
    have hres := dn_stored hrx hv w hB (Nat.le_succ B)
    have z3 := hrx.stored false un uo uk uc uf
    have z0 := z3.c0
    have z1 := z3.c1
    have z2 := z3.c2
    have z4 := z3.c3
    have HRES := Lib.hid hres; clear hres z3
    go_wp2
    refine bodyPost_ret (v := .tuple #[.agg #[.bool false, .bool un, .slice uo uk uc, .int .i64 uf], .int .i64 0]) (by simp [results, Tryz.results176, go_sem, z0, z1, z2, z4]) rfl ⟨_, rfl, HRES.out.1, ?_⟩
    show Below _ _ _; rw [HBe.out]; exact HRES.out.2

/-- the products of the elements with the same index -/
def prods (x y : List Nat) : List Dy := List.zipWith (fun a b => dmul (fdy a) (fdy b)) x y
theorem prods_getD {x y : List Nat} {j : Nat} (hx : j < x.length) (hy : j < y.length) : (prods x y).getD j none = dmul (fdy (x.getD j 0)) (fdy (y.getD j 0)) := by
  unfold prods
  simp [List.getD, List.getElem?_zipWith, hx, hy]

set_option maxRecDepth 100000 in
set_option maxHeartbeats 8000000 in
theorem adot_any (ao bo : Option Addr) (n cap cb : Nat) (x y : List Nat) (w : World) (h : Fs w ao n cap x) (h' : Fs w bo n cb y) (hT : Table w) (hT6 : Table64 w) (hn : n ≤ 1000000) :
    Calls Tryz.prog 127 #[.slice ao n cap, .slice bo n cb] w fun e w' => ∃ r, e = .returned (.tuple #[r, .int .i64 (chkE (dtotal (prods x y)))]) ∧ Dn w' r (chk (dtotal (prods x y))) ∧ Ext w w' := by
  have HL := Lib.hid h.len
  have HL' := Lib.hid h'.len
  have HH := Lib.hid h
  have HH' := Lib.hid h'
  clear h h'
  obtain ⟨D, hD⟩ : ∃ D, prods x y = D := ⟨_, rfl⟩
  have hDl : D.length = n := by rw [← hD]; unfold prods; rw [List.length_zipWith, HL.out, HL'.out, Nat.min_self]
  have HDL := Lib.hid hDl; clear hDl
  rw [hD]
  have HD := Lib.hid hD; clear hD
  go_enter Tryz.func127, Tryz.ntmps127
  go_upto_region 1 with fail
  obtain ⟨W, hW, hB, hbx, hz⟩ := dbox_new w false false none 0 0 0
  rw [← hW]
  clear hW
  have HT := Lib.hid hT; clear hT
  have HT6 := Lib.hid hT6; clear hT6
  generalize hBe : w.heap.size = B at *
  have HBe := Lib.hid hBe
  have HEX : ∀ wx, Below B w wx → Ext w wx := fun wx h => by rw [← hBe] at h; exact h
  have HEX := Lib.hid HEX
  clear hBe
  go_wp2_with (refine wpList_make_dyads _ rfl _ _ rfl _ _ n n rfl rfl rfl rfl (by omega) (by omega) ?_)
  intro w1 hdb hw1 hsz1
  obtain ⟨hE, hE'⟩ := bnext hB (by omega) hw1
  have hbx := hbx.below hw1
  have hgB : B < W.heap.size := by omega
  generalize W.heap.size = g at *
  have htb : Tb w1 g n (List.replicate n DP.zero) 0 D := ⟨hdb, by simp, Nat.zero_le _, fun i hi => absurd hi (Nat.not_lt_zero _)⟩
  clear hB hw1 hz hsz1 hdb
  go_wp2
  go_loopw [7, 8, 20] (fun _ _ ix wr => ∃ (j : Nat) (L : List DP), j ≤ n ∧ ix = .int .i64 j ∧ Tb wr g n L j D ∧ Below B w wr ∧ DBox wr B false false none 0 0 0)
    (fun _ _ ix _ => n - (intOf ix).toNat)
  case atStart => exact ⟨0, _, Nat.zero_le _, rfl, htb, hE, hbx⟩
  case round =>
    obtain ⟨j, L, hj, rfl, htb, hE, hbr⟩ := hrel
    have hgl := htb.db.lt
    have hbl := hbr.lt
    by_cases hlt : j < n
    · have h := HH.out.below (HEX.out _ hE)
      have h' := HH'.out.below (HEX.out _ hE)
      obtain ⟨b, off, rfl, hc⟩ := h.cells (by omega)
      obtain ⟨b', off', rfl, hc'⟩ := h'.cells (by omega)
      have hcj := hc j hlt
      have hcj' := hc' j hlt
      have hfl := h.getD_lt j
      have hfl' := h'.getD_lt j
      have hmap := prods_getD (x := x) (y := y) (j := j) (by rw [HL.out]; exact hlt) (by rw [HL'.out]; exact hlt)
      rw [HD.out] at hmap
      obtain ⟨p, hp⟩ : ∃ p, x.getD j 0 = p := ⟨_, rfl⟩
      obtain ⟨q, hq⟩ : ∃ q, y.getD j 0 = q := ⟨_, rfl⟩
      rw [hp] at hcj hfl hmap
      rw [hq] at hcj' hfl' hmap
      obtain ⟨dp, hdp⟩ : ∃ d, fdy p = d := ⟨_, rfl⟩
      obtain ⟨dq, hdq⟩ : ∃ d, fdy q = d := ⟨_, rfl⟩
      have hsm := fdy_small p
      rw [hdp] at hmap hsm
      rw [hdq] at hmap
      have HM := Lib.hid hmap
      have HDP := Lib.hid hdp
      have HDQ := Lib.hid hdq
      have HSM := Lib.hid hsm
      have HCQ : ∀ wx, Ext wr wx → wx.cell? ⟨b', off' + j, none⟩ = some (.int .u64 (q : Int)) := fun wx hx => by
        rw [hx.cell (p := ⟨b', off' + j, none⟩) (lt_of_cell hcj')]; exact hcj'
      have HCQ := Lib.hid HCQ
      clear hc hc' h h' hp hq hmap hdp hdq hsm
      go_upto_region 7 with fail
      obtain ⟨V, hVe⟩ : ∃ V, V = wr := ⟨_, rfl⟩
      subst hVe
      have e5 : j * 4 = 4 * j := by omega
      have hex : Ext V V.drew := (Below.refl _ _).drew
      have C1 := Lib.hid (fun wx (hx : Ext V wx) => fof_at (f := p) hfl HDP.out wx (HT6.out.below (Ext.trans (HEX.out _ hE) hx)))
      have C2 := Lib.hid (fun wx (hx : Ext V wx) => fof_at (f := q) hfl' HDQ.out wx (HT6.out.below (Ext.trans (HEX.out _ hE) hx)))
      have HTV : ∀ wx, Ext V wx → Table wx := fun wx hx => HT.out.below (Ext.trans (HEX.out _ hE) hx)
      have HTV := Lib.hid HTV
      go_region_with (first
        | (go_at_call 122; (with_reducible refine (C1.out _ (by assumption)).mono ?_); rintro e w1 ⟨v1, rfl, hv1, hw1⟩; have ex1 : Ext V w1 := Ext.trans hex hw1; have cq := HCQ.out w1 ex1)
        | (go_at_call 122; (with_reducible refine (C2.out _ (by assumption)).mono ?_); rintro e w2 ⟨v2, rfl, hv2, hw2⟩; have ex2 : Ext V w2 := Ext.trans ex1 hw2; have hv1 := hv1.ext hw2)
        | (go_at_call 175; refine (dmul_any _ _ _ _ _ hv1.dg hv2.dg (by exact HTV.out _ ex2) (Or.inl HSM.out)).mono ?_; rintro e w3 ⟨v3, rfl, hv3, hw3⟩; have ex3 : Ext V w3 := Ext.trans ex2 hw3; obtain ⟨rb, rn, ro, rk, rc, re, rfl⟩ := hv3.parts; have tb3 := htb.below ex3; obtain ⟨c0, c1, c2, c3⟩ := tb3.db.c j (by rw [tb3.len]; exact hlt); have f0 := tb3.db.f (4 * j); have f1 := tb3.db.f (4 * j + 1); have f2 := tb3.db.f (4 * j + 2); have f3 := tb3.db.f (4 * j + 3)))
      all_goals go_wp2
      all_goals
        have hset := tb3.set (p := ⟨rb, rn, ro, rk, rc, re⟩) (by rw [HM.out]; exact hv3) hlt
        have ho := only_set4' w3 g (4 * j) ⟨rb, rn, ro, rk, rc, re⟩
        have hE3 := (hE.trans (ex3.mono (by omega))).trans (ho.below (B := B) (by omega))
        have hbr3 := (hbr.below ex3).only ho (by omega)
        trace_state
        exact ⟨⟨j + 1, _, by omega, by go_num, hset, hE3, hbr3⟩, by simp [intOf] <;> omega⟩
    · obtain rfl : j = n := by omega
      have hdsl := htb.sl HDL.out
      have C := Lib.hid (dsum_any _ _ _ _ _ wr hdsl (HT.out.below (HEX.out _ hE)) (by omega))
      clear hdsl
      go_wp2_with fail
      refine C.out.mono ?_
      rintro e w4 ⟨v, rfl, hv, hw4⟩
      have hbr := hbr.below hw4
      obtain ⟨hE, hE'⟩ := bnext hE (by omega) hw4
      go_wp2_with fail
      refine (checked_any _ _ _ hv).mono ?_
      rintro e w5 ⟨v, rfl, hv, hw5⟩
      obtain ⟨rb, rn, ro2, rk, rc, re, rfl⟩ := hv.parts
      have bx := hbr.below hw5
      obtain ⟨hE4, hE4'⟩ := bnext hE hE' hw5
      clear hbr hE hw4 hw5 htb
      have q0 := bx.c0
      have q1 := bx.c1
      have q2 := bx.c2
      have q3 := bx.c3
      have f0 := bx.f 0
      have f1 := bx.f 1
      have f2 := bx.f 2
      have f3 := bx.f 3
      have hres := dn_stored bx hv w hE4 (Nat.le_refl B)
      have z3 := bx.stored rb rn ro2 rk rc re
      have z0 := z3.c0
      have z1 := z3.c1
      have z2 := z3.c2
      have z4 := z3.c3
      have HRES := Lib.hid hres; clear hres z3
      go_wp2
      refine bodyPost_ret (v := .tuple #[.agg #[.bool rb, .bool rn, .slice ro2 rk rc, .int .i64 re], .int .i64 _]) (by simp [results, Tryz.results127, go_sem, z0, z1, z2, z4]) rfl ⟨_, rfl, HRES.out.1, ?_⟩
      show Below _ _ _; rw [HBe.out]; exact HRES.out.2
end Go.Proofs.YtolghagbpnjpgaaGreatDoor

namespace Go.Proofs.YtolghagbpnjpgaaGreatDoor

/-- these dyads have the sum N in units of 2^-S -/
inductive IsL (S : Nat) : List Dy → Int → Prop
  | nil : IsL S [] 0
  | cons {d : Dy} {l : List Dy} {N M : Int} (h : Is d S N) (t : IsL S l M) : IsL S (d :: l) (N + M)

theorem IsL.some {S : Nat} {l : List Dy} {N : Int} (h : IsL S l N) : none ∉ l := by
  induction h with
  | nil => simp
  | cons h _ ih =>
    intro hm
    rcases List.mem_cons.1 hm with e | hm
    · obtain ⟨m, x, h1, _⟩ := h
      rw [← e] at h1; cases h1
    · exact ih hm

theorem IsL.scs {S : Nat} {l : List Dy} {N : Int} (h : IsL S l N) (hS : S ≤ 65536) : scs l = N * 2 ^ (65536 - S) := by
  induction h with
  | nil => simp [Go.Proofs.YtolghagbpnjpgaaGreatDoor.scs]
  | cons h _ ih => simp only [Go.Proofs.YtolghagbpnjpgaaGreatDoor.scs, ih, sc_is h hS, Int.add_mul]

theorem dtotal_is {S B : Nat} {l : List Dy} {N : Int} (h : IsL S l N) (hS : S ≤ 65536) (hN : N.natAbs < 2 ^ B) (hB : B ≤ 65536) : Is (dtotal l) S N := by
  unfold dtotal
  rw [if_neg h.some, h.scs hS, dmk_shift, show (-65536 : Int) + ((65536 - S : Nat) : Int) = -(S : Int) by omega]
  exact Is.of_dmk hS hN hB

end Go.Proofs.YtolghagbpnjpgaaGreatDoor

namespace Go.Proofs.YtolghagbpnjpgaaGreatDoor

/-- the sum of floats, in units of 2^-1074 -/
def sumF : List Nat → Int
  | [] => 0
  | f :: l => fzs f + sumF l
/-- the sum of products, in units of 2^-2148 -/
def dotF : List Nat → List Nat → Int
  | f :: l, g :: m => fzs f * fzs g + dotF l m
  | _, _ => 0

theorem sumF_is {l : List Nat} (h : ∀ f ∈ l, finB f = true) : IsL 1074 (l.map fdy) (sumF l) := by
  induction l with
  | nil => exact .nil
  | cons f l ih => exact .cons (fdy_is (h f List.mem_cons_self)) (ih fun g hg => h g (List.mem_cons_of_mem _ hg))
theorem sumF_lt {l : List Nat} (h : ∀ f ∈ l, finB f = true) : (sumF l).natAbs ≤ l.length * 2 ^ (52 + low46) := by
  induction l with
  | nil => simp [sumF]
  | cons f l ih =>
    have h1 := ih fun g hg => h g (List.mem_cons_of_mem _ hg)
    have h2 := fz_bound (h f List.mem_cons_self)
    rw [← fzs_abs] at h2
    have h3 := Int.natAbs_add_le (fzs f) (sumF l)
    simp only [sumF, List.length_cons, Nat.add_mul, Nat.one_mul]
    omega
theorem sumF_dy {l : List Nat} (h : ∀ f ∈ l, finB f = true) (hl : l.length ≤ 1000000) : Is (dtotal (l.map fdy)) 1074 (sumF l) := by
  have h1 := sumF_lt h
  refine dtotal_is (B := 20 + (52 + low46)) (sumF_is h) (by omega) ?_ (by rw [low46_le]; omega)
  have h2 : l.length * 2 ^ (52 + low46) ≤ 1000000 * 2 ^ (52 + low46) := Nat.mul_le_mul_right _ hl
  have h3 : 1000000 * 2 ^ (52 + low46) < 2 ^ 20 * 2 ^ (52 + low46) := Nat.mul_lt_mul_of_pos_right (by omega) (Nat.pow_pos (by omega))
  rw [← Nat.pow_add] at h3
  omega

theorem dotF_is {l m : List Nat} (h : ∀ f ∈ l, finB f = true) (h' : ∀ f ∈ m, finB f = true) : IsL (1074 + 1074) (List.zipWith (fun a b => dmul (fdy a) (fdy b)) l m) (dotF l m) := by
  induction l generalizing m with
  | nil => exact .nil
  | cons f l ih =>
    cases m with
    | nil => exact .nil
    | cons g m => exact .cons (fdy_mul (h f List.mem_cons_self) (h' g List.mem_cons_self)) (ih (fun x hx => h x (List.mem_cons_of_mem _ hx)) fun x hx => h' x (List.mem_cons_of_mem _ hx))
theorem dotF_lt {l m : List Nat} (h : ∀ f ∈ l, finB f = true) (h' : ∀ f ∈ m, finB f = true) : (dotF l m).natAbs ≤ l.length * 2 ^ ((52 + low46) + (52 + low46)) := by
  induction l generalizing m with
  | nil => simp [dotF]
  | cons f l ih =>
    cases m with
    | nil => simp [dotF]
    | cons g m =>
      have h1 := ih (m := m) (fun x hx => h x (List.mem_cons_of_mem _ hx)) fun x hx => h' x (List.mem_cons_of_mem _ hx)
      have h2 := fz_bound (h f List.mem_cons_self)
      have h2' := fz_bound (h' g List.mem_cons_self)
      rw [← fzs_abs] at h2 h2'
      have h4 := abs_mul_lt h2 h2'
      have h3 := Int.natAbs_add_le (fzs f * fzs g) (dotF l m)
      simp only [dotF, List.length_cons, Nat.add_mul, Nat.one_mul]
      omega
theorem dotF_dy {l m : List Nat} (h : ∀ f ∈ l, finB f = true) (h' : ∀ f ∈ m, finB f = true) (hl : l.length ≤ 1000000) : Is (dtotal (List.zipWith (fun a b => dmul (fdy a) (fdy b)) l m)) (1074 + 1074) (dotF l m) := by
  have h1 := dotF_lt h h'
  refine dtotal_is (B := 20 + ((52 + low46) + (52 + low46))) (dotF_is h h') (by omega) ?_ (by rw [low46_le]; omega)
  have h2 : l.length * 2 ^ ((52 + low46) + (52 + low46)) ≤ 1000000 * 2 ^ ((52 + low46) + (52 + low46)) := Nat.mul_le_mul_right _ hl
  have h3 : 1000000 * 2 ^ ((52 + low46) + (52 + low46)) < 2 ^ 20 * 2 ^ ((52 + low46) + (52 + low46)) := Nat.mul_lt_mul_of_pos_right (by omega) (Nat.pow_pos (by omega))
  rw [← Nat.pow_add] at h3
  omega

/-- a difference is zero, added to what was taken it is what it was -/
theorem Is.sub {d d' : Dy} {S : Nat} {N M : Int} (h : Is d S N) (h' : Is d' S M) (hS : S ≤ 65536) {B : Nat} (hb : (N - M).natAbs < 2 ^ B) (hB : B ≤ 65536) : Is (dsub d d') S (N - M) := by
  have := h.add h'.neg hS (B := B) (by rw [← Int.sub_eq_add_neg]; exact hb) hB
  rw [← Int.sub_eq_add_neg] at this
  exact this

theorem fdy_one : fdy 4607182418800017408 = some (1, 0) := by
  have h : fzs 4607182418800017408 = 1 * 2 ^ 1074 := by decide +kernel
  unfold fdy
  rw [if_pos (by decide), h, dmk_shift]
  exact dmk_norm (Or.inr ⟨by decide, by decide, by decide⟩)
end Go.Proofs.YtolghagbpnjpgaaGreatDoor

namespace Go.Proofs.YtolghagbpnjpgaaGreatDoor

/-- the terms added one after the other -/
def foldS (l : List Dy) : Dy := l.foldl dadd (some (0, 0))
theorem foldS_snoc {D : List Dy} {j : Nat} (hj : j < D.length) : foldS (D.take (j + 1)) = dadd (foldS (D.take j)) (D.getD j none) := by
  unfold foldS
  rw [List.take_succ_eq_append_getElem hj, List.foldl_append]
  simp [List.getD, hj]
theorem foldl_none (l : List Dy) : l.foldl dadd none = none := by
  induction l with
  | nil => rfl
  | cons d l ih => rw [List.foldl_cons, dadd_none]; exact ih
theorem fold_mem {l : List Dy} (h : none ∈ l) (s : Dy) : l.foldl dadd s = none := by
  induction l generalizing s with
  | nil => simp at h
  | cons d l ih =>
    rw [List.foldl_cons]
    rcases List.mem_cons.1 h with e | h
    · rw [← e, dadd_none']; exact foldl_none l
    · exact ih h _
theorem zero_is (S : Nat) : Is (some (0, 0)) S 0 := ⟨0, 0, rfl, Or.inl ⟨rfl, rfl⟩, by omega, by simp⟩

theorem isL_snoc {S : Nat} {l : List Dy} {d : Dy} {N M : Int} (h : IsL S l N) (h' : Is d S M) : IsL S (l ++ [d]) (N + M) := by
  induction h with
  | nil => have := IsL.cons h' IsL.nil; rw [Int.add_zero] at this; rw [Int.zero_add]; exact this
  | cons h _ ih => rw [Int.add_assoc]; exact .cons h ih

theorem fold_total {S K : Nat} {l : List Dy} (hS : S ≤ 65536) (h : ∀ d ∈ l, ∃ N, Is d S N ∧ N.natAbs < 2 ^ K) (hl : l.length ≤ 1000000) (hK : K + 20 ≤ 65536) : foldS l = dtotal l := by
  have hb : ∀ j, j ≤ 1000000 → ∀ N : Int, N.natAbs ≤ j * 2 ^ K → N.natAbs < 2 ^ (K + 20) := by
    intro j hj N hN
    have h3 : j * 2 ^ K ≤ 1000000 * 2 ^ K := Nat.mul_le_mul_right _ hj
    have h4 : 1000000 * 2 ^ K < 2 ^ 20 * 2 ^ K := Nat.mul_lt_mul_of_pos_right (by omega) (Nat.pow_pos (by omega))
    rw [← Nat.pow_add, Nat.add_comm] at h4
    omega
  have main : ∀ j, j ≤ l.length → ∃ N, Is (foldS (l.take j)) S N ∧ IsL S (l.take j) N ∧ N.natAbs ≤ j * 2 ^ K := by
    intro j
    induction j with
    | zero => intro _; exact ⟨0, by rw [List.take_zero]; exact zero_is S, by rw [List.take_zero]; exact .nil, by simp⟩
    | succ j ih =>
      intro hj
      obtain ⟨N, i1, i2, i3⟩ := ih (by omega)
      have hjl : j < l.length := hj
      obtain ⟨M, m1, m2⟩ := h l[j] (List.getElem_mem hjl)
      have he : l.getD j none = l[j] := by simp [List.getD, hjl]
      have hN : (N + M).natAbs ≤ (j + 1) * 2 ^ K := by
        rw [Nat.add_mul, Nat.one_mul]
        have := Int.natAbs_add_le N M
        omega
      refine ⟨N + M, ?_, ?_, hN⟩
      · rw [foldS_snoc hjl, he]
        exact i1.add m1 hS (hb (j + 1) (by omega) _ hN) hK
      · rw [List.take_succ_eq_append_getElem hjl]
        exact isL_snoc i2 m1
  obtain ⟨N, i1, i2, i3⟩ := main l.length (Nat.le_refl _)
  rw [List.take_length] at i1 i2
  exact i1.unique (dtotal_is i2 hS (hb _ hl _ i3) hK)

theorem fdy_none {f : Nat} (h : finB f = false) : fdy f = none := by unfold fdy; rw [h]; rfl
theorem fold_floats {l : List Nat} (hl : l.length ≤ 1000000) : foldS (l.map fdy) = dtotal (l.map fdy) := by
  by_cases hf : ∀ f ∈ l, finB f = true
  · refine fold_total (S := 1074) (K := 52 + low46) (by omega) ?_ (by rw [List.length_map]; exact hl) (by rw [low46_le]; omega)
    intro d hd
    obtain ⟨f, hm, rfl⟩ := List.mem_map.1 hd
    refine ⟨fzs f, fdy_is (hf f hm), ?_⟩
    have h2 := fz_bound (hf f hm)
    rw [← fzs_abs] at h2
    exact h2
  · have : ∃ f ∈ l, finB f = false := by
      simp only [Classical.not_forall] at hf
      obtain ⟨f, hm, h⟩ := hf
      exact ⟨f, hm, by simpa using h⟩
    obtain ⟨f, hm, h⟩ := this
    have hn : none ∈ l.map fdy := List.mem_map.2 ⟨f, hm, fdy_none h⟩
    unfold dtotal
    rw [if_pos hn]
    exact fold_mem hn _
theorem mem_prods {x y : List Nat} {d : Dy} (h : d ∈ prods x y) : ∃ a b, a ∈ x ∧ b ∈ y ∧ d = dmul (fdy a) (fdy b) := by
  unfold prods at h
  induction x generalizing y with
  | nil => simp at h
  | cons a x ih =>
    cases y with
    | nil => simp at h
    | cons b y =>
      rw [List.zipWith_cons_cons] at h
      rcases List.mem_cons.1 h with rfl | h
      · exact ⟨a, b, List.mem_cons_self, List.mem_cons_self, rfl⟩
      · obtain ⟨a', b', h1, h2, h3⟩ := ih h
        exact ⟨a', b', List.mem_cons_of_mem _ h1, List.mem_cons_of_mem _ h2, h3⟩
theorem fold_prods {x y : List Nat} (hl : x.length ≤ 1000000) (hx : ∀ f ∈ x, finB f = true) (hy : ∀ f ∈ y, finB f = true) : foldS (prods x y) = dtotal (prods x y) := by
  refine fold_total (S := 1074 + 1074) (K := (52 + low46) + (52 + low46)) (by omega) ?_ (by unfold prods; rw [List.length_zipWith]; omega) (by rw [low46_le]; omega)
  intro d hd
  obtain ⟨a, b, ha, hb, rfl⟩ := mem_prods hd
  refine ⟨fzs a * fzs b, fdy_mul (hx a ha) (hy b hb), ?_⟩
  have h2 := fz_bound (hx a ha)
  have h2' := fz_bound (hy b hb)
  rw [← fzs_abs] at h2 h2'
  exact abs_mul_lt h2 h2'
theorem prods_is {x y : List Nat} (hl : x.length ≤ 1000000) (hx : ∀ f ∈ x, finB f = true) (hy : ∀ f ∈ y, finB f = true) : dtotal (prods x y) ≠ none := by
  obtain ⟨m, e, h, _⟩ := dotF_dy hx hy hl
  unfold prods
  rw [h]
  simp
theorem prods_none {x y : List Nat} (h0 : x.length = y.length) (h : x.all finB = false ∨ y.all finB = false) : dtotal (prods x y) = none := by
  have hm : none ∈ prods x y := by
    have key : ∀ (x y : List Nat), x.length = y.length → (∃ f ∈ x, finB f = false) ∨ (∃ f ∈ y, finB f = false) → none ∈ prods x y := by
      intro x
      induction x with
      | nil => intro y h0 h; cases y with
        | nil => simp at h
        | cons b y => simp at h0
      | cons a x ih => intro y h0 h; cases y with
        | nil => simp at h0
        | cons b y =>
          unfold prods
          rw [List.zipWith_cons_cons]
          rcases h with ⟨f, hf, h1⟩ | ⟨f, hf, h1⟩
          · rcases List.mem_cons.1 hf with rfl | hf
            · exact List.mem_cons.2 (Or.inl (by rw [fdy_none h1]; rfl))
            · exact List.mem_cons_of_mem _ (ih y (by simpa using h0) (Or.inl ⟨f, hf, h1⟩))
          · rcases List.mem_cons.1 hf with rfl | hf
            · exact List.mem_cons.2 (Or.inl (by rw [fdy_none h1]; exact (dmul_none' _).symm))
            · exact List.mem_cons_of_mem _ (ih y (by simpa using h0) (Or.inr ⟨f, hf, h1⟩))
    refine key x y h0 ?_
    rcases h with h | h
    · obtain ⟨f, h1, h2⟩ := List.all_eq_false.1 h
      exact Or.inl ⟨f, h1, by simpa using h2⟩
    · obtain ⟨f, h1, h2⟩ := List.all_eq_false.1 h
      exact Or.inr ⟨f, h1, by simpa using h2⟩
  unfold dtotal
  rw [if_pos hm]

/-- an inner product and its error; a residual and its error -/
def dotR (x y : List Nat) : Dy × Int := if x.length ≠ y.length then (some (0, 0), 2) else (chk (dtotal (prods x y)), chkE (dtotal (prods x y)))
end Go.Proofs.YtolghagbpnjpgaaGreatDoor

namespace Go.Proofs.YtolghagbpnjpgaaGreatDoor

/-- the distance of two naturals -/
def dist (a b : Nat) : Nat := (a - b) + (b - a)

theorem vu_74 (N : Nat) : vu N (-1074) 1074 = N := by unfold vu; simp
theorem fu_74 (m : Nat) : fu m 1074 = fz m := by unfold fu; simp

/-- to nearest: either exact, or between two neighbours and not farther than the other one -/
theorem near_cases {N s : Nat} (h0 : N ≠ 0) (neg : Bool) (hs : fla neg N (-1074) false 0 = s) (hf : s < 9218868437227405312) :
    fz s = N ∨ ∃ lo, fz lo < N ∧ N < fz (lo + 1) ∧ lo + 1 ≤ 9218868437227405312 ∧ ((s = lo ∧ 2 * N ≤ fz lo + fz (lo + 1)) ∨ (s = lo + 1 ∧ fz lo + fz (lo + 1) ≤ 2 * N)) := by
  rcases fla_spec h0 (-1074) (T := 1074) (by omega) (by omega) with ⟨l, h1, h2, h3⟩ | ⟨l, b, h⟩
  · left
    rw [vu_74, fu_74] at h3
    rw [← hs, h2]; exact h3
  · right
    have h1 := h.lt
    have h2 := h.above
    have h3 := h.below
    have h4 := h.near
    have h5 := h.val neg 0
    rw [hs] at h5
    rw [vu_74, fu_74] at h2
    rw [vu_74, fu_74, fu_74] at h3 h4
    have hr : fraise neg 0 b = b := by unfold fraise; simp
    rw [hr] at h5
    have hm := fz_lt_succ h1
    have hlt : N < fz (l + 1) := by
      rcases h3 with ⟨h3, h6⟩ | h3
      · rw [h3] at hm h4
        cases b
        · simp at h4; omega
        · simp at h5; omega
      · exact h3
    refine ⟨l, h2, hlt, by omega, ?_⟩
    cases b
    · left
      simp at h4 h5
      exact ⟨h5, by omega⟩
    · right
      simp at h4 h5
      exact ⟨h5, by omega⟩

/-- no float is nearer -/
theorem near_best {N s m : Nat} (h0 : N ≠ 0) (neg : Bool) (hs : fla neg N (-1074) false 0 = s) (hf : s < 9218868437227405312) (hm : m < 9218868437227405312) : dist N (fz s) ≤ dist N (fz m) := by
  unfold dist
  rcases near_cases h0 neg hs hf with h | ⟨lo, h1, h2, h3, h⟩
  · rw [h]; omega
  · have hc : fz m ≤ fz lo ∨ fz (lo + 1) ≤ fz m := by
      by_cases hml : m ≤ lo
      · left; exact fz_mono hml (by omega)
      · right; exact fz_mono (by omega) (by omega)
    rcases h with ⟨rfl, h⟩ | ⟨rfl, h⟩ <;> omega

/-- what is left is a multiple of what the sum is a multiple of -/
theorem near_mult {N s M j : Nat} (h0 : N ≠ 0) (neg : Bool) (hs : fla neg N (-1074) false 0 = s) (hf : s < 9218868437227405312) (hN : N = M * 2 ^ j) : ∃ K, dist N (fz s) = K * 2 ^ j := by
  rcases near_cases h0 neg hs hf with h | ⟨lo, h1, h2, h3, h⟩
  · exact ⟨0, by unfold dist; rw [h]; omega⟩
  · obtain ⟨q, k, hq, hk, hn, hm⟩ : ∃ q k, q ≤ 2045 ∧ k < 9007199254740992 ∧ (q = 0 ∨ 4503599627370496 ≤ k) ∧ lo = q * 4503599627370496 + k := by
      by_cases h1 : lo < 4503599627370496
      · exact ⟨0, lo, by omega, by omega, by omega, by omega⟩
      · exact ⟨lo / 4503599627370496 - 1, lo % 4503599627370496 + 4503599627370496, by omega, by omega, by omega, by omega⟩
    have e1 : fz lo = k * 2 ^ q := by rw [hm, fz_bits (by omega) hn hq]
    have e2 : fz (lo + 1) = (k + 1) * 2 ^ q := by rw [hm, Nat.add_assoc, fz_bits (by omega) (by omega) hq]
    have hjq : j ≤ q := by
      rcases Nat.lt_or_ge q j with hlt | hge
      · exfalso
        obtain ⟨i, rfl⟩ : ∃ i, j = i + q := ⟨j - q, by omega⟩
        rw [Nat.pow_add, ← Nat.mul_assoc] at hN
        rw [e1, hN] at h1
        rw [e2, hN] at h2
        have g1 := Nat.lt_of_mul_lt_mul_right h1
        have g2 := Nat.lt_of_mul_lt_mul_right h2
        omega
      · exact hge
    obtain ⟨i, rfl⟩ : ∃ i, q = i + j := ⟨q - j, by omega⟩
    rw [Nat.pow_add, ← Nat.mul_assoc] at e1 e2
    unfold dist
    rcases h with ⟨rfl, _⟩ | ⟨rfl, _⟩
    · refine ⟨M - k * 2 ^ i, ?_⟩
      rw [Nat.sub_mul, ← hN, ← e1]; omega
    · refine ⟨(k + 1) * 2 ^ i - M, ?_⟩
      rw [Nat.sub_mul, ← hN, ← e2]; omega

theorem fzs_mul (f : Nat) : fzs f = sgi (fneg f) (sig f) * 2 ^ fsh f := by rw [fzs_sgi, fz_parts, sgi_mul]

/-- the lesser exponent's number bounds what is left -/
theorem sum_rest_one {a b s : Nat} {V : Int} (hb : finB b = true) (ha : finB a = true) (hV : V = fzs a + fzs b) (h0 : V ≠ 0) (hj : fsh b ≤ fsh a) (neg : Bool) (hs : fla neg V.natAbs (-1074) false 0 = s) (hf : s < 9218868437227405312) :
    ∃ K j, dist V.natAbs (fz s) = K * 2 ^ j ∧ K < 9007199254740992 ∧ dist V.natAbs (fz s) < fz 9218868437227405312 := by
  obtain ⟨i, hi⟩ : ∃ i, fsh a = i + fsh b := ⟨fsh a - fsh b, by omega⟩
  have hma : fmag a < 9218868437227405312 := of_decide_eq_true ha
  have hmb : fmag b < 9218868437227405312 := of_decide_eq_true hb
  have hm : V = (sgi (fneg a) (sig a) * 2 ^ i + sgi (fneg b) (sig b)) * 2 ^ fsh b := by
    rw [hV, fzs_mul a, fzs_mul b, hi, Int.pow_add, Int.add_mul, Int.mul_assoc]
  have hN : V.natAbs = (sgi (fneg a) (sig a) * 2 ^ i + sgi (fneg b) (sig b)).natAbs * 2 ^ fsh b := by rw [hm, Int.natAbs_mul, Int.natAbs_pow]; rfl
  obtain ⟨K, hK⟩ := near_mult (by omega) neg hs hf hN
  have hbest : dist V.natAbs (fz s) ≤ fz b := by
    have ea : (fzs a).natAbs = fz a := by unfold fzs; split <;> omega
    have eb : (fzs b).natAbs = fz b := by unfold fzs; split <;> omega
    have h1 := near_best (m := fmag a) (by omega) neg hs hf hma
    have h2 := near_best (m := 0) (by omega) neg hs hf (by omega)
    rw [fz_mag] at h1
    rw [fz_zero0] at h2
    by_cases hsame : (0 ≤ V ∧ 0 ≤ fzs a) ∨ (V ≤ 0 ∧ fzs a ≤ 0)
    · refine Nat.le_trans h1 ?_
      unfold dist
      omega
    · refine Nat.le_trans h2 ?_
      unfold dist
      omega
  refine ⟨K, fsh b, hK, ?_, Nat.lt_of_le_of_lt hbest ?_⟩
  · rw [hK, fz_parts] at hbest
    have := Nat.le_of_mul_le_mul_right hbest (Nat.pow_pos (by omega))
    have := sig_lt b
    omega
  · rw [← fz_mag b]
    exact fz_lt hmb (Nat.le_refl _)

/-- the rest of a sum rounded to nearest has room in a float -/
theorem sum_rest {a b s : Nat} {V : Int} (ha : finB a = true) (hb : finB b = true) (hV : V = fzs a + fzs b) (h0 : V ≠ 0) (neg : Bool) (hs : fla neg V.natAbs (-1074) false 0 = s) (hf : s < 9218868437227405312) :
    ∃ K j, dist V.natAbs (fz s) = K * 2 ^ j ∧ K < 9007199254740992 ∧ dist V.natAbs (fz s) < fz 9218868437227405312 := by
  rcases Nat.le_total (fsh b) (fsh a) with h | h
  · exact sum_rest_one hb ha hV h0 h neg hs hf
  · exact sum_rest_one ha hb (by rw [hV, Int.add_comm]) h0 h neg hs hf
end Go.Proofs.YtolghagbpnjpgaaGreatDoor
