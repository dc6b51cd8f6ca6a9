/- DyadExact returns true, from what its callees do. -/
import Derived.Test.YtilmighjcjgccaaGreatDoorCDExactA
import Derived.Test.YtilmighjcjgccaaGreatDoorCDExactB
import Derived.Test.YtilmighjcjgccaaGreatDoorCDExactC
import Derived.Test.YtilmighjcjgccaaGreatDoorCDExactD
import Derived.Test.YtilmighjcjgccaaGreatDoorCDExactE
import Derived.Test.YtilmighjcjgccaaGreatDoorCDRing
namespace Go.Proofs.YtilmighjcjgccaaGreatDoor
open Go.RowKit

theorem zent_dl {w : World} {v : Value} {bb nb : Bool} {zs : List Int} {f : Int} (h : ZEnt.Ok w ⟨v, bb, nb, zs, f⟩) (hn : zs.length ≤ 20) (hf : -9223372036854775808 ≤ f ∧ f ≤ 9223372036854775807) : Dl w v (draw bb (sgd nb zs) f) := by
  obtain ⟨ao, n, ca, rfl, hs⟩ := h.parts
  have hbg : Bg w nb ao n ca (sgd nb zs) := ⟨⟨zs, hs, rfl⟩, by rw [← hs.len]; omega⟩
  have hbl := bg_blen hbg
  exact ⟨bb, nb, ao, n, ca, _, f, rfl, hbg, by rw [← hs.len] at hbl; omega, hf.1, hf.2, rfl⟩
theorem zent_bg {w : World} {bb nb cc mb : Bool} {ao : Option Addr} {n ca : Nat} {e : Int} {zs : List Int} {f : Int} (h : ZEnt.Ok w ⟨.agg #[.bool cc, .bool mb, .slice ao n ca, .int .i64 e], bb, nb, zs, f⟩) (hn : zs.length ≤ 20) : cc = bb ∧ mb = nb ∧ e = f ∧ Bg w nb ao n ca (sgd nb zs) := by
  obtain ⟨ao', n', ca', h1, hs⟩ := h.parts
  simp only [Value.agg.injEq, Array.mk.injEq, List.cons.injEq, Value.bool.injEq, Value.slice.injEq, Value.int.injEq, and_true, true_and] at h1
  obtain ⟨rfl, rfl, ⟨rfl, rfl, rfl⟩, rfl⟩ := h1
  exact ⟨rfl, rfl, rfl, ⟨zs, hs, rfl⟩, by rw [← hs.len]; omega⟩
theorem draw_small {bb : Bool} {x f : Int} (hb : blen x.natAbs ≤ 640) (hf : -2000 ≤ f ∧ f ≤ 2000 ∨ 131072 < f ∨ f < -131072) : blen (dm (draw bb x f)).natAbs ≤ 3100 := by
  unfold draw
  cases bb with
  | true => simp [dm, blen]
  | false =>
    by_cases hv : dmk x f = none
    · rw [if_neg (by decide), hv]; simp [dm, blen]
    · rw [if_neg (by decide)]; exact Nat.le_trans (slim_of hb hf hv).1 (by omega)
set_option maxRecDepth 100000 in
set_option maxHeartbeats 40000000 in
theorem dexact_yes (ab an : Bool) (ao : Option Addr) (ak ac : Nat) (ae : Int) (bb bn : Bool) (bo : Option Addr) (bk bc : Nat) (be : Int) (i : Int) (w : World) (xs ys : List Int) (ha : Sl w ao ak ac xs) (hb : Sl w bo bk bc ys) (sa : slimSays ak ae 20 2000 = true) (sb : slimSays bk be 20 2000 = true) (hae : -9223372036854775808 ≤ ae ∧ ae ≤ 9223372036854775807) (hbe : -9223372036854775808 ≤ be ∧ be ≤ 9223372036854775807) (hi : -9223372036854775808 ≤ i ∧ i ≤ 9223372036854775807) (hT : Table w) :
    Calls Tryz.prog 3 #[.agg #[.bool ab, .bool an, .slice ao ak ac, .int .i64 ae], .agg #[.bool bb, .bool bn, .slice bo bk bc, .int .i64 be], .int .i64 i] w fun e w' => e = .returned (.bool true) ∧ Ext w w' := by
  have sa' := sa
  have sb' := sb
  unfold slimSays at sa' sb'
  simp only [decide_eq_true_eq] at sa' sb'
  obtain ⟨hn, hf⟩ := sa'
  obtain ⟨hm, hf'⟩ := sb'
  go_enter Tryz.func3, Tryz.ntmps3
  go_upto_region 1 with fail
  obtain ⟨W, hW, hB, hx, hy, hsz⟩ := boxes_two_d w ab an ao ak ac ae bb bn bo bk bc be
  rw [← hW]
  clear hW
  have ha := ha.below hB
  have hb := hb.below hB
  have HTW := Lib.hid (hT.below hB)
  have HB := Lib.hid (show Ext w W from hB)
  have HI := Lib.hid hi
  have HAE := Lib.hid hae
  have HBE := Lib.hid hbe
  have HXL := Lib.hid (show xs.length ≤ 20 by rw [ha.len]; exact hn)
  have HYL := Lib.hid (show ys.length ≤ 20 by rw [hb.len]; exact hm)
  have HM : Hid (blen (dm (draw ab (sgd an xs) ae)).natAbs ≤ 3100) := Lib.hid (draw_small (by
    have := bg_blen (show Bg W an ao ak ac (sgd an xs) from ⟨⟨xs, ha, rfl⟩, by omega⟩)
    omega) (by omega))
  have HBL : Hid (blen (sgd an xs).natAbs ≤ 1000000) := Lib.hid (by
    have := bg_blen (show Bg W an ao ak ac (sgd an xs) from ⟨⟨xs, ha, rfl⟩, by omega⟩)
    omega)
  have SA := Lib.hid sa
  have SB := Lib.hid sb
  clear hB hT hi hae hbe sa sb hf hf' hn hm
  generalize w.heap.size = B at *
  have hcells : ∀ wx, Ext W wx → (wx.cell? ⟨B, 0, none⟩ = some (.bool ab) ∧ wx.cell? ⟨B, 1, none⟩ = some (.bool an) ∧ wx.cell? ⟨B, 2, none⟩ = some (.slice ao ak ac) ∧ wx.cell? ⟨B, 3, none⟩ = some (.int .i64 ae)) ∧ (wx.cell? ⟨B + 1, 0, none⟩ = some (.bool bb) ∧ wx.cell? ⟨B + 1, 1, none⟩ = some (.bool bn) ∧ wx.cell? ⟨B + 1, 2, none⟩ = some (.slice bo bk bc) ∧ wx.cell? ⟨B + 1, 3, none⟩ = some (.int .i64 be)) := fun wx h =>
    ⟨⟨(hx.ext h).c0, (hx.ext h).c1, (hx.ext h).c2, (hx.ext h).c3⟩, ⟨(hy.ext h).c0, (hy.ext h).c1, (hy.ext h).c2, (hy.ext h).c3⟩⟩
  have HC := Lib.hid hcells; clear hcells
  clear hx hy
  obtain ⟨⟨a0, a1, a2, a3⟩, b0, b1, b2, b3⟩ := HC.out W (Ext.refl _)
  go_wp2_with fail
  refine (dslim_at ab an ao ak ac ae _ true SA.out).mono ?_
  rintro e w1 ⟨rfl, h1⟩
  clear a0 a1 a2 a3 b0 b1 b2 b3
  obtain ⟨⟨a0, a1, a2, a3⟩, b0, b1, b2, b3⟩ := HC.out w1 h1
  go_wp2_with fail
  refine (dslim_at bb bn bo bk bc be _ true SB.out).mono ?_
  rintro e w2 ⟨rfl, h2⟩
  have h12 : Ext W w2 := Ext.trans h1 h2
  have hst : ZSt w2 w2 [⟨.agg #[.bool ab, .bool an, .slice ao ak ac, .int .i64 ae], ab, an, xs, ae⟩, ⟨.agg #[.bool bb, .bool bn, .slice bo bk bc, .int .i64 be], bb, bn, ys, be⟩] :=
    ⟨Ext.refl _, fun p hp => by
      simp only [List.mem_cons, List.not_mem_nil, or_false] at hp
      rcases hp with rfl | rfl
      · exact ⟨ao, ak, ac, rfl, ha.below h12⟩
      · exact ⟨bo, bk, bc, rfl, hb.below h12⟩⟩
  have hBw : B + 1 < w2.heap.size := by have := h12.size; omega
  have HT2 := Lib.hid (HTW.out.below h12)
  have HB2 := Lib.hid (HB.out.trans h12)
  have HC' := Lib.hid (fun wx (h : Ext w2 wx) => HC.out wx (Ext.trans h12 h))
  clear HC
  have HC := HC'
  clear HC' HB h1 h2 h12 ha hb a0 a1 a2 a3 b0 b1 b2 b3 hsz HTW SA SB
  obtain ⟨⟨a0, a1, a2, a3⟩, b0, b1, b2, b3⟩ := HC.out w2 (Ext.refl _)
  go_upto_region 3 with fail
  have std := hst.drew
  have TAG1 := Lib.hid trivial
  go_cut [7, 8] from 30 (fun p q wx => ∃ g h xb xn xo xk xc xe yb yn yo yk yc ye, p = .pointer (some ⟨g, 0, none⟩) ∧ q = .pointer (some ⟨h, 0, none⟩) ∧
    DBox wx g xb xn xo xk xc xe ∧ DBox wx h yb yn yo yk yc ye ∧ ZSt w2 wx [⟨.agg #[.bool yb, .bool yn, .slice yo yk yc, .int .i64 ye], bb, bn, ys, be⟩, ⟨.agg #[.bool xb, .bool xn, .slice xo xk xc, .int .i64 xe], ab, an, xs, ae⟩, ⟨.agg #[.bool ab, .bool an, .slice ao ak ac, .int .i64 ae], ab, an, xs, ae⟩, ⟨.agg #[.bool bb, .bool bn, .slice bo bk bc, .int .i64 be], bb, bn, ys, be⟩])
  case first => exact dexact_r3 (by with_reducible assumption) (by with_reducible assumption) HC HXL HYL hst std hBw
  case rest =>
    obtain ⟨g, h, xb, xn, xo, xk, xc, xe, yb, yn, yo, yk, yc, ye, rfl, rfl, bx, by', rst⟩ := hcut
    clear std hst a0 a1 a2 a3 b0 b1 b2 b3
    have hcells2 : ∀ wx, Ext wc wx → (wx.cell? ⟨B, 0, none⟩ = some (.bool ab) ∧ wx.cell? ⟨B, 1, none⟩ = some (.bool an) ∧ wx.cell? ⟨B, 2, none⟩ = some (.slice ao ak ac) ∧ wx.cell? ⟨B, 3, none⟩ = some (.int .i64 ae)) ∧ (wx.cell? ⟨B + 1, 0, none⟩ = some (.bool bb) ∧ wx.cell? ⟨B + 1, 1, none⟩ = some (.bool bn) ∧ wx.cell? ⟨B + 1, 2, none⟩ = some (.slice bo bk bc) ∧ wx.cell? ⟨B + 1, 3, none⟩ = some (.int .i64 be)) ∧ (wx.cell? ⟨g, 0, none⟩ = some (.bool xb) ∧ wx.cell? ⟨g, 1, none⟩ = some (.bool xn) ∧ wx.cell? ⟨g, 2, none⟩ = some (.slice xo xk xc) ∧ wx.cell? ⟨g, 3, none⟩ = some (.int .i64 xe)) ∧ (wx.cell? ⟨h, 0, none⟩ = some (.bool yb) ∧ wx.cell? ⟨h, 1, none⟩ = some (.bool yn) ∧ wx.cell? ⟨h, 2, none⟩ = some (.slice yo yk yc) ∧ wx.cell? ⟨h, 3, none⟩ = some (.int .i64 ye)) := fun wx h =>
      ⟨(HC.out wx (Ext.trans rst.ext h)).1, (HC.out wx (Ext.trans rst.ext h)).2, ⟨(bx.ext h).c0, (bx.ext h).c1, (bx.ext h).c2, (bx.ext h).c3⟩, (by'.ext h).c0, (by'.ext h).c1, (by'.ext h).c2, (by'.ext h).c3⟩
    have m0 := rst.bag _ (List.Mem.head _)
    have m1 := rst.bag _ (List.Mem.tail _ (List.Mem.head _))
    have m2 := rst.bag _ (List.Mem.tail _ (List.Mem.tail _ (List.Mem.head _)))
    have m3 := rst.bag _ (List.Mem.tail _ (List.Mem.tail _ (List.Mem.tail _ (List.Mem.head _))))
    obtain ⟨e1, e2, e3, hbgx⟩ := zent_bg m1 HXL.out
    obtain ⟨e4, e5, e6, -⟩ := zent_bg m0 HYL.out
    obtain ⟨-, -, -, hbga⟩ := zent_bg m2 HXL.out
    have e1 := e1.symm
    have e2 := e2.symm
    have e3 := e3.symm
    have e4 := e4.symm
    have e5 := e5.symm
    have e6 := e6.symm
    subst e1 e2 e3 e4 e5 e6
    have HC2 := Lib.hid hcells2; clear hcells2
    have HZ := Lib.hid (fun wx (h : Ext wc wx) => (rst.self.step h).self)
    have HBC := Lib.hid (Ext.trans HB2.out rst.ext)
    have HBX := Lib.hid (fun wx (h : Ext wc wx) => hbgx.below h)
    have HBA := Lib.hid (fun wx (h : Ext wc wx) => hbga.below h)
    have stn : QSt wc wc [⟨.agg #[.bool ab, .bool an, .slice xo xk xc, .int .i64 ae], draw ab (sgd an xs) ae, false⟩, ⟨.agg #[.bool bb, .bool bn, .slice yo yk yc, .int .i64 be], draw bb (sgd bn ys) be, false⟩, ⟨.agg #[.bool ab, .bool an, .slice ao ak ac, .int .i64 ae], draw ab (sgd an xs) ae, false⟩, ⟨.agg #[.bool bb, .bool bn, .slice bo bk bc, .int .i64 be], draw bb (sgd bn ys) be, false⟩] :=
      ⟨Ext.refl wc, HT2.out.below rst.ext, fun k hk => by
        simp only [List.mem_cons, List.not_mem_nil, or_false] at hk
        rcases hk with rfl | rfl | rfl | rfl
        · exact qok_dl (zent_dl m1 HXL.out HAE.out)
        · exact qok_dl (zent_dl m0 HYL.out HBE.out)
        · exact qok_dl (zent_dl m2 HXL.out HAE.out)
        · exact qok_dl (zent_dl m3 HYL.out HBE.out)⟩
    clear m0 m1 m2 m3 bx by' HB2 HT2 hBw HC rst hbgx hbga
    obtain ⟨p, hp⟩ : ∃ p, draw ab (sgd an xs) ae = p := ⟨_, rfl⟩
    obtain ⟨q, hq⟩ : ∃ q, draw bb (sgd bn ys) be = q := ⟨_, rfl⟩
    obtain ⟨X, hX⟩ : ∃ X, sgd an xs = X := ⟨_, rfl⟩
    rw [hp, hq] at stn
    rw [hp] at HM
    rw [hX] at HBX HBA HBL
    clear hp hq hX
    obtain ⟨cs, cb, hcs⟩ : ∃ cs cb, cmpV p q = (cs, cb) := ⟨_, _, rfl⟩
    have HCS := Lib.hid hcs; clear hcs
    obtain ⟨ss, hss⟩ : ∃ ss, sgn3 (dm p) 0 = ss := ⟨_, rfl⟩
    have HSS := Lib.hid hss; clear hss
    obtain ⟨vv, hvv⟩ : ∃ vv, p.isSome = vv := ⟨_, rfl⟩
    have HVV := Lib.hid hvv; clear hvv
    obtain ⟨ls, lb, hls⟩ : ∃ ls lb, logV p = (ls, lb) := ⟨_, _, rfl⟩
    have HLS := Lib.hid hls; clear hls
    have t1 : (cs != cs) = false := by simp
    have t2 : (ss != ss) = false := by simp
    have t3 : (cb != cb) = false := by cases cb <;> rfl
    have t4 : (vv != vv) = false := by cases vv <;> rfl
    have t5 : (ls != ls) = false := by simp
    have t6 : (lb != lb) = false := by cases lb <;> rfl
    obtain ⟨⟨a0, a1, a2, a3⟩, ⟨b0, b1, b2, b3⟩, ⟨x0, x1, x2, x3⟩, y0, y1, y2, y3⟩ := HC2.out _ stn.ext
    go_wp2_with fail
    refine (qcmp_bag (W := wc) stn (by repeat (first | exact List.Mem.head _ | refine List.Mem.tail _ ?_)) (by repeat (first | exact List.Mem.head _ | refine List.Mem.tail _ ?_)) cs cb HCS.out).mono ?_
    rintro e wn ⟨rfl, stn⟩
    clear a0 a1 a2 a3 b0 b1 b2 b3 x0 x1 x2 x3 y0 y1 y2 y3
    obtain ⟨⟨a0, a1, a2, a3⟩, ⟨b0, b1, b2, b3⟩, ⟨x0, x1, x2, x3⟩, y0, y1, y2, y3⟩ := HC2.out _ stn.ext
    go_wp2_with fail
    refine (rcmp_bag (W := wc) stn (by repeat (first | exact List.Mem.head _ | refine List.Mem.tail _ ?_)) (by repeat (first | exact List.Mem.head _ | refine List.Mem.tail _ ?_)) cs cb HCS.out).mono ?_
    rintro e wn ⟨rfl, stn⟩
    go_upto_region 6 with fail
    have hEw := stn.ext
    have stn := stn.self
    have HC2' := Lib.hid (fun wx (h : Ext wn wx) => HC2.out wx (Ext.trans hEw h))
    have HZ' := Lib.hid (fun wx (h : Ext wn wx) => HZ.out wx (Ext.trans hEw h))
    have HBX' := Lib.hid (fun wx (h : Ext wn wx) => HBX.out wx (Ext.trans hEw h))
    have HBA' := Lib.hid (fun wx (h : Ext wn wx) => HBA.out wx (Ext.trans hEw h))
    have HBC' := Lib.hid (Ext.trans HBC.out hEw)
    clear HC2 HZ HBX HBA HBC hEw a0 a1 a2 a3 b0 b1 b2 b3 x0 x1 x2 x3 y0 y1 y2 y3
    have HC2 := HC2'
    have HZ := HZ'
    have HBX := HBX'
    have HBA := HBA'
    have HBC := HBC'
    clear HC2' HZ' HBX' HBA' HBC'
    go_cut [83] from 46 (fun r wx => r = .bool false ∧ Ext wn wx)
    case first => exact dexact_r6 (by with_reducible assumption) (by with_reducible assumption) HC2 HI HSS HVV stn
    case rest =>
    obtain ⟨rfl, hEc⟩ := hcut
    have stn := (stn.step hEc).self
    have HC2' := Lib.hid (fun wx (h : Ext wc wx) => HC2.out wx (Ext.trans hEc h))
    have HZ' := Lib.hid (fun wx (h : Ext wc wx) => HZ.out wx (Ext.trans hEc h))
    have HBX' := Lib.hid (fun wx (h : Ext wc wx) => HBX.out wx (Ext.trans hEc h))
    have HBA' := Lib.hid (fun wx (h : Ext wc wx) => HBA.out wx (Ext.trans hEc h))
    have HBC' := Lib.hid (Ext.trans HBC.out hEc)
    clear HC2 HZ HBX HBA HBC hEc
    have HC2 := HC2'
    have HZ := HZ'
    have HBX := HBX'
    have HBA := HBA'
    have HBC := HBC'
    clear HC2' HZ' HBX' HBA' HBC'
    obtain ⟨V0, hV0⟩ : ∃ V, V = wc := ⟨wc, rfl⟩
    subst hV0
    go_upto_region 8 with fail
    go_cut [127] from 84 (fun r wx => r = .bool false ∧ Ext V0 wx)
    case first => exact dexact_r8 (by with_reducible assumption) (by with_reducible assumption) HC2 HM stn
    case rest =>
    obtain ⟨rfl, hEc⟩ := hcut
    have stn := (stn.step hEc).self
    have HC2' := Lib.hid (fun wx (h : Ext wc wx) => HC2.out wx (Ext.trans hEc h))
    have HZ' := Lib.hid (fun wx (h : Ext wc wx) => HZ.out wx (Ext.trans hEc h))
    have HBX' := Lib.hid (fun wx (h : Ext wc wx) => HBX.out wx (Ext.trans hEc h))
    have HBA' := Lib.hid (fun wx (h : Ext wc wx) => HBA.out wx (Ext.trans hEc h))
    have HBC' := Lib.hid (Ext.trans HBC.out hEc)
    clear HC2 HZ HBX HBA HBC hEc
    have HC2 := HC2'
    have HZ := HZ'
    have HBX := HBX'
    have HBA := HBA'
    have HBC := HBC'
    clear HC2' HZ' HBX' HBA' HBC'
    obtain ⟨⟨a0, a1, a2, a3⟩, ⟨b0, b1, b2, b3⟩, ⟨x0, x1, x2, x3⟩, y0, y1, y2, y3⟩ := HC2.out _ stn.ext
    go_wp2_with fail
    refine (qfloor_bag (W := wc) stn (by repeat (first | exact List.Mem.head _ | refine List.Mem.tail _ ?_)) vv HVV.out).mono ?_
    rintro e wn ⟨un, uo, uk, uc, rfl, hfl, stn⟩
    clear a0 a1 a2 a3 b0 b1 b2 b3 x0 x1 x2 x3 y0 y1 y2 y3
    go_upto_region 11 with fail
    obtain ⟨V1, hV, hv, bu, hz⟩ := box_new wn un uo uk uc
    rw [← hV]
    clear hV
    have stn := stn.step hv
    have hfu := hfl.below hv
    clear hfl hz hv
    generalize wn.heap.size = ug at *
    obtain ⟨⟨a0, a1, a2, a3⟩, ⟨b0, b1, b2, b3⟩, ⟨x0, x1, x2, x3⟩, y0, y1, y2, y3⟩ := HC2.out _ stn.ext
    go_wp2_with fail
    refine (rfloor_bag (W := V1) stn.self (by repeat (first | exact List.Mem.head _ | refine List.Mem.tail _ ?_)) vv HVV.out).mono ?_
    rintro e wn ⟨vn, vo, vk, vc, rfl, hfl, st2⟩
    have h12 : Ext V1 wn := st2.ext
    clear st2
    have stn := stn.step h12
    clear a0 a1 a2 a3 b0 b1 b2 b3 x0 x1 x2 x3 y0 y1 y2 y3
    go_upto_region 12 with fail
    obtain ⟨V2, hV, hv, bv, hz⟩ := box_new wn vn vo vk vc
    rw [← hV]
    clear hV
    have hw2 : Ext V1 V2 := Ext.trans h12 hv
    have stw := stn.step hv
    have hfu := hfu.below hw2
    have hfv := hfl.below hv
    have bu := bu.below hw2
    generalize wn.heap.size = vg at *
    have hE2 : Ext wc V2 := stw.ext
    have stn := stw.self
    clear stw hz hv h12 hw2 hfl
    have HF1 := Lib.hid (fun wx (h : Ext V2 wx) => hfu.below h)
    have HF2 := Lib.hid (fun wx (h : Ext V2 wx) => hfv.below h)
    have HC3 := Lib.hid (show ∀ wx, Ext V2 wx → ((wx.cell? ⟨B, 0, none⟩ = some (.bool ab) ∧ wx.cell? ⟨B, 1, none⟩ = some (.bool an) ∧ wx.cell? ⟨B, 2, none⟩ = some (.slice ao ak ac) ∧ wx.cell? ⟨B, 3, none⟩ = some (.int .i64 ae)) ∧ (wx.cell? ⟨B + 1, 0, none⟩ = some (.bool bb) ∧ wx.cell? ⟨B + 1, 1, none⟩ = some (.bool bn) ∧ wx.cell? ⟨B + 1, 2, none⟩ = some (.slice bo bk bc) ∧ wx.cell? ⟨B + 1, 3, none⟩ = some (.int .i64 be)) ∧ (wx.cell? ⟨g, 0, none⟩ = some (.bool ab) ∧ wx.cell? ⟨g, 1, none⟩ = some (.bool an) ∧ wx.cell? ⟨g, 2, none⟩ = some (.slice xo xk xc) ∧ wx.cell? ⟨g, 3, none⟩ = some (.int .i64 ae)) ∧ (wx.cell? ⟨h, 0, none⟩ = some (.bool bb) ∧ wx.cell? ⟨h, 1, none⟩ = some (.bool bn) ∧ wx.cell? ⟨h, 2, none⟩ = some (.slice yo yk yc) ∧ wx.cell? ⟨h, 3, none⟩ = some (.int .i64 be))) ∧ (wx.cell? ⟨ug, 0, none⟩ = some (.bool un) ∧ wx.cell? ⟨ug, 1, none⟩ = some (.slice uo uk uc)) ∧ (wx.cell? ⟨vg, 0, none⟩ = some (.bool vn) ∧ wx.cell? ⟨vg, 1, none⟩ = some (.slice vo vk vc)) from fun wx h => ⟨HC2.out wx (Ext.trans hE2 h), ⟨(bu.below h).c0, (bu.below h).c1⟩, (bv.below h).c0, (bv.below h).c1⟩)
    have HZ' := Lib.hid (fun wx (h : Ext V2 wx) => HZ.out wx (Ext.trans hE2 h))
    have HBX' := Lib.hid (fun wx (h : Ext V2 wx) => HBX.out wx (Ext.trans hE2 h))
    have HBA' := Lib.hid (fun wx (h : Ext V2 wx) => HBA.out wx (Ext.trans hE2 h))
    have HBC' := Lib.hid (Ext.trans HBC.out hE2)
    clear HC2 HZ HBX HBA HBC bu bv hfu hfv hE2
    have HZ := HZ'
    have HBX := HBX'
    have HBA := HBA'
    have HBC := HBC'
    clear HZ' HBX' HBA' HBC'
    obtain ⟨⟨⟨a0, a1, a2, a3⟩, ⟨b0, b1, b2, b3⟩, ⟨x0, x1, x2, x3⟩, y0, y1, y2, y3⟩, ⟨f0, f1⟩, h0, h1⟩ := HC3.out _ stn.ext
    go_wp2_with fail
    refine (qlog_bag (W := V2) stn (by repeat (first | exact List.Mem.head _ | refine List.Mem.tail _ ?_)) ls lb HLS.out).mono ?_
    rintro e wn ⟨rfl, stn⟩
    clear a0 a1 a2 a3 b0 b1 b2 b3 x0 x1 x2 x3 y0 y1 y2 y3 f0 f1 h0 h1
    obtain ⟨⟨⟨a0, a1, a2, a3⟩, ⟨b0, b1, b2, b3⟩, ⟨x0, x1, x2, x3⟩, y0, y1, y2, y3⟩, ⟨f0, f1⟩, h0, h1⟩ := HC3.out _ stn.ext
    go_wp2_with fail
    refine (rlog_bag (W := V2) stn (by repeat (first | exact List.Mem.head _ | refine List.Mem.tail _ ?_)) ls lb HLS.out).mono ?_
    rintro e wn ⟨rfl, stn⟩
    go_upto_region 14 with fail
    have hEw := stn.ext
    have stn := stn.self
    have HC3' := Lib.hid (fun wx (h : Ext wn wx) => HC3.out wx (Ext.trans hEw h))
    have HZ' := Lib.hid (fun wx (h : Ext wn wx) => HZ.out wx (Ext.trans hEw h))
    have HBX' := Lib.hid (fun wx (h : Ext wn wx) => HBX.out wx (Ext.trans hEw h))
    have HBA' := Lib.hid (fun wx (h : Ext wn wx) => HBA.out wx (Ext.trans hEw h))
    have HF1' := Lib.hid (fun wx (h : Ext wn wx) => HF1.out wx (Ext.trans hEw h))
    have HF2' := Lib.hid (fun wx (h : Ext wn wx) => HF2.out wx (Ext.trans hEw h))
    have HBC' := Lib.hid (Ext.trans HBC.out hEw)
    clear HC3 HZ HBX HBA HBC hEw HF1 HF2 a0 a1 a2 a3 b0 b1 b2 b3 x0 x1 x2 x3 y0 y1 y2 y3 f0 f1 h0 h1
    have HC3 := HC3'
    have HZ := HZ'
    have HBX := HBX'
    have HBA := HBA'
    have HBC := HBC'
    have HF1 := HF1'
    have HF2 := HF2'
    clear HC3' HZ' HBX' HBA' HBC' HF1' HF2'
    go_cut [176] from 148 (fun r wx => r = .bool false ∧ Ext wn wx)
    case first => exact dexact_r14 (by with_reducible assumption) (by with_reducible assumption) HC3 HF1 HF2 HI stn
    case rest =>
    obtain ⟨rfl, hEc⟩ := hcut
    have stn := (stn.step hEc).self
    have HC4 := Lib.hid (fun wx (h : Ext wc wx) => (HC3.out wx (Ext.trans hEc h)).1)
    have HZ' := Lib.hid (fun wx (h : Ext wc wx) => HZ.out wx (Ext.trans hEc h))
    have HBX' := Lib.hid (fun wx (h : Ext wc wx) => HBX.out wx (Ext.trans hEc h))
    have HBA' := Lib.hid (fun wx (h : Ext wc wx) => HBA.out wx (Ext.trans hEc h))
    have HBC' := Lib.hid (Ext.trans HBC.out hEc)
    clear HC3 HZ HBX HBA HBC hEc HF1 HF2
    have HC3 := HC4
    have HZ := HZ'
    have HBX := HBX'
    have HBA := HBA'
    have HBC := HBC'
    clear HC4 HZ' HBX' HBA' HBC'
    obtain ⟨V3, hV3⟩ : ∃ V, V = wc := ⟨wc, rfl⟩
    subst hV3
    go_upto_region 16 with fail
    go_cut [6] from 177 (fun r wx => r = .bool true ∧ Ext V3 wx)
    case first => exact dexact_r16 (by with_reducible assumption) (by with_reducible assumption) HC3 HZ HBX HBA HBL HI stn
    case rest =>
    obtain ⟨rfl, hEc⟩ := hcut
    go_wp2
    go_ret
    exact ⟨rfl, Ext.trans HBC.out hEc⟩
end Go.Proofs.YtilmighjcjgccaaGreatDoor
