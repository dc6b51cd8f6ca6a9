/- DyadScales returns true, from what its callees do. -/
import Derived.Test.YtimehdepiigkgaaDoorCDPair
import Derived.Test.YtimehdepiigkgaaDoorCDRing
import Derived.Test.YtimehdepiigkgaaDoorCDScaMath
namespace Go.Proofs.YtimehdepiigkgaaDoor
open Go.RowKit

theorem cells2_only {w w' : World} {g B : Nat} {a b : Option Value} (ho : Only g w w') (hne : g ≠ B) (h : w.cell? ⟨B, 0, none⟩ = a ∧ w.cell? ⟨B, 1, none⟩ = b) : w'.cell? ⟨B, 0, none⟩ = a ∧ w'.cell? ⟨B, 1, none⟩ = b := by
  have hb := ho.block B (Ne.symm hne)
  exact ⟨by rw [World.cell?_of_block (w := w) hb]; exact h.1, by rw [World.cell?_of_block (w := w) hb]; exact h.2⟩
theorem cells2_stored {w : World} {g B : Nat} {u v x y : Value} {a b : Option Value} (hne : g ≠ B) (h : w.cell? ⟨B, 0, none⟩ = a ∧ w.cell? ⟨B, 1, none⟩ = b) :
    ((((w.setCell ⟨g, 0, none⟩ u).setCell ⟨g, 1, none⟩ v).setCell ⟨g, 2, none⟩ x).setCell ⟨g, 3, none⟩ y).cell? ⟨B, 0, none⟩ = a ∧ ((((w.setCell ⟨g, 0, none⟩ u).setCell ⟨g, 1, none⟩ v).setCell ⟨g, 2, none⟩ x).setCell ⟨g, 3, none⟩ y).cell? ⟨B, 1, none⟩ = b :=
  cells2_only (only_set4 _ _ _ _ _ _) hne h
theorem cells2_alloc {w : World} {B : Nat} {o : Obj} {a b : Value} (h : w.cell? ⟨B, 0, none⟩ = some a ∧ w.cell? ⟨B, 1, none⟩ = some b) : (w.alloc o).cell? ⟨B, 0, none⟩ = some a ∧ (w.alloc o).cell? ⟨B, 1, none⟩ = some b := by
  have hb : Below w.heap.size w (w.alloc o) := (Below.refl _ _).alloc (Nat.le_refl _) o
  have hl := lt_of_cell h.1
  exact ⟨by rw [hb.cell (p := ⟨B, 0, none⟩) hl]; exact h.1, by rw [hb.cell (p := ⟨B, 1, none⟩) hl]; exact h.2⟩
theorem cells2_drew {w : World} {B : Nat} {a b : Option Value} (h : w.cell? ⟨B, 0, none⟩ = a ∧ w.cell? ⟨B, 1, none⟩ = b) : w.drew.cell? ⟨B, 0, none⟩ = a ∧ w.drew.cell? ⟨B, 1, none⟩ = b := h

theorem bg_floor {w : World} {nr : Bool} {ro : Option Addr} {k cr : Nat} {x : Int} (h : Bn w nr ro k cr x) (hx : x.natAbs < 2 ^ SB) : Bg w nr ro k cr x := by
  refine h.bg ?_
  rw [← h.sl.len]
  have := limbs_of_blen (a := x.natAbs) (k := 4096) (by have := blen_le_of_lt hx; unfold SB at this; omega)
  omega

set_option maxRecDepth 100000 in
set_option maxHeartbeats 20000000 in
theorem dscales_any (ab an : Bool) (ao : Option Addr) (ak ac : Nat) (ae i : Int) (w : World) (ha : RawD w ab an ao ak ac ae) (hT : Table w) :
    Calls Tryd.prog 8 #[.agg #[.bool ab, .bool an, .slice ao ak ac, .int .i64 ae], .int .i64 i] w fun e w' => e = .returned (.bool true) ∧ Ext w w' := by
  go_enter Tryd.func8, Tryd.ntmps8
  go_upto_region 1 with fail
  obtain ⟨W, hW, hB, hx, hz⟩ := dbox_new w ab an ao ak ac ae
  rw [← hW]
  clear hW
  have ha : RawD W ab an ao ak ac ae := ⟨ha.1, ha.2.1, fun h => by obtain ⟨zs, hs⟩ := ha.2.2 h; exact ⟨zs, hs.below hB⟩⟩
  have HTW := Lib.hid (hT.below hB)
  have HB := Lib.hid (show Ext w W from hB)
  clear hB hT
  generalize w.heap.size = B at *
  have hcells : ∀ wx, Ext W wx → (wx.cell? ⟨B, 0, none⟩ = some (.bool ab) ∧ wx.cell? ⟨B, 1, none⟩ = some (.bool an) ∧ wx.cell? ⟨B, 2, none⟩ = some (.slice ao ak ac) ∧ wx.cell? ⟨B, 3, none⟩ = some (.int .i64 ae)) := fun wx h =>
    ⟨(hx.ext h).c0, (hx.ext h).c1, (hx.ext h).c2, (hx.ext h).c3⟩
  have HC := Lib.hid hcells; clear hcells
  obtain ⟨a0, a1, a2, a3⟩ := HC.out W (Ext.refl _)
  by_cases sa : slimSays ak ae 20 2000 = true
  · have SA := Lib.hid sa
    go_wp2_with fail
    refine (dslim_at ab an ao ak ac ae _ true sa).mono ?_
    rintro e w1 ⟨rfl, hw1⟩
    clear a0 a1 a2 a3 sa
    obtain ⟨a0, a1, a2, a3⟩ := HC.out w1 hw1
    obtain ⟨d, D, Q⟩ := ha.slim SA.out
    clear ha
    have Q := Lib.hid Q
    have hst : DSt W w1 [⟨.agg #[.bool ab, .bool an, .slice ao ak ac, .int .i64 ae], d, false⟩] :=
      ⟨hw1, HTW.out.below hw1, fun p hp => by
        simp only [List.mem_cons, List.not_mem_nil, or_false] at hp
        rcases hp with rfl
        exact dok_dg (D.ext hw1).dg⟩
    have D := Lib.hid (show ∀ wx, Ext W wx → Dl wx (.agg #[.bool ab, .bool an, .slice ao ak ac, .int .i64 ae]) d from fun wx h => D.ext h)
    by_cases va : d = none
    · have VA := Lib.hid va
      clear va
      go_wp2_with fail
      refine (refDValid_at (D.out _ hst.ext) hst.tab false (by rw [VA.out]; rfl)).mono ?_
      rintro e w4 ⟨rfl, hw4⟩
      have hst := hst.step hw4
      go_wp2_with fail
      refine (dawake_bag hst).mono ?_
      rintro e w5 ⟨rfl, hst⟩
      go_wp2
      go_ret
      exact ⟨rfl, HB.out.trans hst.ext⟩
    · have VA := Lib.hid va
      clear va
      go_wp2_with fail
      refine (refDValid_at (D.out _ hst.ext) hst.tab true (by cases d with | none => exact absurd rfl VA.out | some p => rfl)).mono ?_
      rintro e w4 ⟨rfl, hw4⟩
      have hst := hst.step hw4
      clear a0 a1 a2 a3 hw4 hw1
      obtain ⟨a0, a1, a2, a3⟩ := HC.out _ hst.ext
      have SL := Lib.hid (Q.out VA.out)
      clear Q
      go_wp2_with fail
      refine (place_any i 4000 _ (by omega) (by omega)).mono ?_
      rintro e w5 ⟨j, hj, rfl, rfl⟩
      obtain ⟨pr, hpr⟩ : ∃ pr : Int, (j : Int) - 2000 = pr := ⟨_, rfl⟩
      have hp1 : -2000 ≤ pr := by omega
      have hp2 : pr ≤ 2000 := by omega
      have HFL := Lib.hid (slim_floor SL.out)
      have BACK := Lib.hid (scale_back SL.out hp1 hp2)
      go_upto_region 4 with fail
      have HPR := Lib.hid hpr; clear hpr hj
      go_wp2_with fail
      refine (dscale_bag hst (by repeat (first | exact List.Mem.head _ | refine List.Mem.tail _ ?_)) pr).mono ?_
      rintro e w6 ⟨r, rfl, hst⟩
      obtain ⟨pb, pn, po, pk, pc, pe, rfl⟩ := (hst.dn (List.Mem.head _)).parts
      have xa := hx.ext hst.ext
      clear a0 a1 a2 a3 hx HC hz
      go_upto_region 5 with fail
      obtain ⟨V, hV, hv, xp, hz⟩ := dbox_new w6 pb pn po pk pc pe
      rw [← hV]
      clear hV
      have EX := Lib.hid (HB.out.trans (hst.ext.trans hv))
      have hst := (hst.step hv).self
      have xa := xa.ext hv
      clear hv HB hz D HTW
      generalize w6.heap.size = g1 at *
      have hcells : ∀ wx, Ext V wx → (wx.cell? ⟨B, 0, none⟩ = some (.bool ab) ∧ wx.cell? ⟨B, 1, none⟩ = some (.bool an) ∧ wx.cell? ⟨B, 2, none⟩ = some (.slice ao ak ac) ∧ wx.cell? ⟨B, 3, none⟩ = some (.int .i64 ae)) ∧ (wx.cell? ⟨g1, 0, none⟩ = some (.bool pb) ∧ wx.cell? ⟨g1, 1, none⟩ = some (.bool pn) ∧ wx.cell? ⟨g1, 2, none⟩ = some (.slice po pk pc) ∧ wx.cell? ⟨g1, 3, none⟩ = some (.int .i64 pe)) := fun wx h =>
        ⟨⟨(xa.ext h).c0, (xa.ext h).c1, (xa.ext h).c2, (xa.ext h).c3⟩, ⟨(xp.ext h).c0, (xp.ext h).c1, (xp.ext h).c2, (xp.ext h).c3⟩⟩
      have HC := Lib.hid hcells; clear hcells
      obtain ⟨⟨a0, a1, a2, a3⟩, p0, p1, p2, p3⟩ := HC.out V (Ext.refl _)
      go_wp2_with fail
      refine (dfloor_bag hst (by repeat (first | exact List.Mem.head _ | refine List.Mem.tail _ ?_)) VA.out).mono ?_
      rintro e w7 ⟨fn, fo, fk, fc, rfl, hfb, hst⟩
      have xa := xa.ext hst.ext
      have xp := xp.ext hst.ext
      have EX := Lib.hid (EX.out.trans hst.ext)
      have hst := hst.self
      clear a0 a1 a2 a3 p0 p1 p2 p3 HC
      go_upto_region 6 with fail
      obtain ⟨V2, hV, hv, xf, hz⟩ := box_new w7 fn fo fk fc
      rw [← hV]
      clear hV
      have EX := Lib.hid (EX.out.trans hv)
      have hst := (hst.step hv).self
      have xa := xa.ext hv
      have xp := xp.ext hv
      have hfb := hfb.below hv
      clear hv hz
      generalize w7.heap.size = g2 at *
      have HF := Lib.hid (show ∀ wx, Ext V2 wx → Bg wx fn fo fk fc (dfloor d) from fun wx h => bg_floor (hfb.below h) HFL.out.1)
      clear hfb
      have hcells : ∀ wx, Ext V2 wx → (wx.cell? ⟨B, 0, none⟩ = some (.bool ab) ∧ wx.cell? ⟨B, 1, none⟩ = some (.bool an) ∧ wx.cell? ⟨B, 2, none⟩ = some (.slice ao ak ac) ∧ wx.cell? ⟨B, 3, none⟩ = some (.int .i64 ae)) ∧ (wx.cell? ⟨g2, 0, none⟩ = some (.bool fn) ∧ wx.cell? ⟨g2, 1, none⟩ = some (.slice fo fk fc)) := fun wx h =>
        ⟨⟨(xa.ext h).c0, (xa.ext h).c1, (xa.ext h).c2, (xa.ext h).c3⟩, (xf.below h).c0, (xf.below h).c1⟩
      have HC := Lib.hid hcells; clear hcells
      obtain ⟨⟨a0, a1, a2, a3⟩, f0, f1⟩ := HC.out V2 (Ext.refl _)
      have std := hst.drew
      have hBa : B < V2.heap.size := xa.lt
      have hBf : g2 < V2.heap.size := xf.lt
      go_cut [8] from 38 (fun q wx => ∃ g bb bn bo bk bc be fv, q = .pointer (some ⟨g, 0, none⟩) ∧ DBox wx g bb bn bo bk bc be ∧ DSt V2 wx [⟨.agg #[.bool bb, .bool bn, .slice bo bk bc, .int .i64 be], dsub d (dmk (dfloor d) 0), true⟩, ⟨fv, dmk (dfloor d) 0, true⟩, ⟨.agg #[.bool pb, .bool pn, .slice po pk pc, .int .i64 pe], dscale d pr, true⟩, ⟨.agg #[.bool ab, .bool an, .slice ao ak ac, .int .i64 ae], d, false⟩])
      case first =>
        go_region_held3 (fun wx => (wx.cell? ⟨B, 0, none⟩ = some (.bool ab) ∧ wx.cell? ⟨B, 1, none⟩ = some (.bool an) ∧ wx.cell? ⟨B, 2, none⟩ = some (.slice ao ak ac) ∧ wx.cell? ⟨B, 3, none⟩ = some (.int .i64 ae)) ∧ (wx.cell? ⟨g2, 0, none⟩ = some (.bool fn) ∧ wx.cell? ⟨g2, 1, none⟩ = some (.slice fo fk fc)))
          ((refine ⟨?_, ?_⟩; (repeat (first | with_reducible refine cells_drew ?_ | with_reducible refine cells_alloc ?_ | with_reducible refine cells_stored (by omega) ?_)); exact (HC.out _ (by first | with_reducible exact Ext.refl _ | with_reducible exact DSt.ext (W := V2) (by with_reducible assumption))).1; (repeat (first | with_reducible refine cells2_drew ?_ | with_reducible refine cells2_alloc ?_ | with_reducible refine cells2_stored (by omega) ?_)); exact (HC.out _ (by first | with_reducible exact Ext.refl _ | with_reducible exact DSt.ext (W := V2) (by with_reducible assumption))).2))
          (first
            | (go_at_call 32; refine (dE (W := V2) (by first | with_reducible assumption | with_reducible exact DSt.drew (by with_reducible assumption) | with_reducible exact DSt.alloc (by with_reducible assumption) _ | with_reducible exact DSt.drew (DSt.alloc (by with_reducible assumption) _)) (fun W' h => dfromBig_bag h fn fo fk fc (dfloor d) (HF.out _ (DSt.ext (W := V2) (by first | with_reducible assumption | with_reducible exact DSt.drew (by with_reducible assumption) | with_reducible exact DSt.alloc (by with_reducible assumption) _ | with_reducible exact DSt.drew (DSt.alloc (by with_reducible assumption) _)))))).mono ?_; rintro e wn ⟨vb, vn, vo, vk, vc, ve, rfl, hE1, stn⟩; have sz1 := size_of_ext stn.ext; first | (have y1 := dbox_in1d (w := V2) (wn := wn) (by with_reducible assumption); have y1 : DBox wn V2.heap.size false false none 0 0 0 := y1) | skip)
            | (go_at_call 18; refine (dE (W := V2) (by first | with_reducible assumption | with_reducible exact DSt.drew (by with_reducible assumption) | with_reducible exact DSt.alloc (by with_reducible assumption) _ | with_reducible exact DSt.drew (DSt.alloc (by with_reducible assumption) _)) (fun W' h => dsub_bag h (by repeat (first | exact List.Mem.head _ | refine List.Mem.tail _ ?_)) (by repeat (first | exact List.Mem.head _ | refine List.Mem.tail _ ?_)))).mono ?_; rintro e wm ⟨bb, bn, bo, bk, bc, be, rfl, hE2, stm⟩; have sz2 := size_of_ext stm.ext; first | (have y1 := y1.ext hE2; have s0 := y1.c0; have s1 := y1.c1; have s2 := y1.c2; have s3 := y1.c3; have s4 := y1.f 0; have s5 := y1.f 1; have s6 := y1.f 2; have s7 := y1.f 3) | (have y1 := dbox_in1 (w := wn) (wn := wm) (by with_reducible assumption); have s0 := y1.c0; have s1 := y1.c1; have s2 := y1.c2; have s3 := y1.c3; have s4 := y1.f 0; have s5 := y1.f 1; have s6 := y1.f 2; have s7 := y1.f 3; have sz := size_of_ext stn.ext) | skip))
        all_goals
          go_wp2
          go_meet
        all_goals
          first
            | (refine ⟨_, bb, bn, bo, bk, bc, be, .agg #[.bool vb, .bool vn, .slice vo vk vc, .int .i64 ve], rfl, y1.stored bb bn bo bk bc be, ?_⟩; have F := DSt.stored stm y1 (by first | exact Nat.le_refl _ | omega) bb bn bo bk bc be; with_reducible exact F)
            | exact ⟨_, bb, bn, bo, bk, bc, be, _, rfl, DBox.new _ bb bn bo bk bc be, stm.alloc _⟩
      case rest =>
        obtain ⟨g3, bb, bn, bo, bk, bc, be, fv, rfl, xb, stc⟩ := hcut
        have xa := xa.ext stc.ext
        have xp := xp.ext stc.ext
        have EX := Lib.hid (EX.out.trans stc.ext)
        have hst := stc.self
        clear stc std HC HF xf a0 a1 a2 a3 f0 f1
        go_wp2_with fail
        refine (dfromInt_bag hst 1 (by omega) (by omega)).mono ?_
        rintro e w8 ⟨r, rfl, hst⟩
        obtain ⟨ob, on, oo, ok, oc, oe, rfl⟩ := (hst.dn (List.Mem.head _)).parts
        have xa := xa.ext hst.ext
        have xp := xp.ext hst.ext
        have xb := xb.ext hst.ext
        have EX := Lib.hid (EX.out.trans hst.ext)
        have hst := hst.self
        go_upto_region 8 with fail
        obtain ⟨V3, hV, hv, xo, hz⟩ := dbox_new w8 ob on oo ok oc oe
        rw [← hV]
        clear hV
        have EX := Lib.hid (EX.out.trans hv)
        have hst := (hst.step hv).self
        have xa := xa.ext hv
        have xp := xp.ext hv
        have xb := xb.ext hv
        clear hv hz
        generalize w8.heap.size = g4 at *
        have hcells : ∀ wx, Ext V3 wx → (wx.cell? ⟨B, 0, none⟩ = some (.bool ab) ∧ wx.cell? ⟨B, 1, none⟩ = some (.bool an) ∧ wx.cell? ⟨B, 2, none⟩ = some (.slice ao ak ac) ∧ wx.cell? ⟨B, 3, none⟩ = some (.int .i64 ae)) ∧ (wx.cell? ⟨g1, 0, none⟩ = some (.bool pb) ∧ wx.cell? ⟨g1, 1, none⟩ = some (.bool pn) ∧ wx.cell? ⟨g1, 2, none⟩ = some (.slice po pk pc) ∧ wx.cell? ⟨g1, 3, none⟩ = some (.int .i64 pe)) ∧ (wx.cell? ⟨g3, 0, none⟩ = some (.bool bb) ∧ wx.cell? ⟨g3, 1, none⟩ = some (.bool bn) ∧ wx.cell? ⟨g3, 2, none⟩ = some (.slice bo bk bc) ∧ wx.cell? ⟨g3, 3, none⟩ = some (.int .i64 be)) ∧ (wx.cell? ⟨g4, 0, none⟩ = some (.bool ob) ∧ wx.cell? ⟨g4, 1, none⟩ = some (.bool on) ∧ wx.cell? ⟨g4, 2, none⟩ = some (.slice oo ok oc) ∧ wx.cell? ⟨g4, 3, none⟩ = some (.int .i64 oe)) := fun wx h =>
          ⟨⟨(xa.ext h).c0, (xa.ext h).c1, (xa.ext h).c2, (xa.ext h).c3⟩, ⟨(xp.ext h).c0, (xp.ext h).c1, (xp.ext h).c2, (xp.ext h).c3⟩, ⟨(xb.ext h).c0, (xb.ext h).c1, (xb.ext h).c2, (xb.ext h).c3⟩, ⟨(xo.ext h).c0, (xo.ext h).c1, (xo.ext h).c2, (xo.ext h).c3⟩⟩
        have HC := Lib.hid hcells; clear hcells
        obtain ⟨⟨a0, a1, a2, a3⟩, ⟨p0, p1, p2, p3⟩, ⟨b0, b1, b2, b3⟩, o0, o1, o2, o3⟩ := HC.out V3 (Ext.refl _)
        clear xa xp xb xo
        obtain ⟨-, F2, F3, F4⟩ := HFL.out
        have F2 := Lib.hid F2
        have F3 := Lib.hid F3
        have F4 := Lib.hid F4
        have HO : (dmk 1 0) ≠ none := by rw [dmk_1]; simp
        have HO := Lib.hid HO
        clear HFL
        generalize dsub d (dmk (dfloor d) 0) = db at *
        generalize dmk (dfloor d) 0 = df at *
        obtain ⟨d1, hd1⟩ : ∃ d1, dmk 1 0 = d1 := ⟨_, rfl⟩
        have HD1 := Lib.hid hd1
        rw [hd1] at hst F4 HO
        clear hd1
        go_wp2_with fail
        refine (dcmp_bag hst (by repeat (first | exact List.Mem.head _ | refine List.Mem.tail _ ?_)) (by repeat (first | exact List.Mem.head _ | refine List.Mem.tail _ ?_)) (-1) F3.out HO.out F4.out).mono ?_
        rintro e w9 ⟨rfl, hst⟩
        clear a0 a1 a2 a3 p0 p1 p2 p3 b0 b1 b2 b3 o0 o1 o2 o3
        obtain ⟨⟨a0, a1, a2, a3⟩, ⟨p0, p1, p2, p3⟩, ⟨b0, b1, b2, b3⟩, o0, o1, o2, o3⟩ := HC.out _ hst.ext
        go_upto_region 9 with fail
        obtain ⟨s1, hs1⟩ : ∃ s1, sgn3 (dm db) 0 = s1 := ⟨_, rfl⟩
        have hs2 : ¬ s1 < 0 := by
          have h1 := F2.out
          rw [hs1] at h1
          have h2 := sgn3_cases (dm db) 0
          omega
        have SG := Lib.hid hs1
        clear hs1
        have hs3 : decide (s1 < 0) = false := decide_eq_false hs2
        have std := hst.drew
        have hw1 : IntKind.i64.wrap (-pr) = -pr := IntWalk.i64_in _ (by omega)
        go_region_held3 (fun wx => (wx.cell? ⟨B, 0, none⟩ = some (.bool ab) ∧ wx.cell? ⟨B, 1, none⟩ = some (.bool an) ∧ wx.cell? ⟨B, 2, none⟩ = some (.slice ao ak ac) ∧ wx.cell? ⟨B, 3, none⟩ = some (.int .i64 ae)) ∧ (wx.cell? ⟨g1, 0, none⟩ = some (.bool pb) ∧ wx.cell? ⟨g1, 1, none⟩ = some (.bool pn) ∧ wx.cell? ⟨g1, 2, none⟩ = some (.slice po pk pc) ∧ wx.cell? ⟨g1, 3, none⟩ = some (.int .i64 pe)) ∧ (wx.cell? ⟨g3, 0, none⟩ = some (.bool bb) ∧ wx.cell? ⟨g3, 1, none⟩ = some (.bool bn) ∧ wx.cell? ⟨g3, 2, none⟩ = some (.slice bo bk bc) ∧ wx.cell? ⟨g3, 3, none⟩ = some (.int .i64 be)) ∧ (wx.cell? ⟨g4, 0, none⟩ = some (.bool ob) ∧ wx.cell? ⟨g4, 1, none⟩ = some (.bool on) ∧ wx.cell? ⟨g4, 2, none⟩ = some (.slice oo ok oc) ∧ wx.cell? ⟨g4, 3, none⟩ = some (.int .i64 oe)))
          (first | exact HC.out _ (by exact DSt.ext (by assumption)))
          (first
            | (go_at_call 30; refine (dscale_bag (W := V3) (by assumption) (by repeat (first | exact List.Mem.head _ | refine List.Mem.tail _ ?_)) (-pr)).mono ?_; rintro e wn ⟨r, rfl, stn⟩)
            | (go_at_call 20; refine (dsign_bag (W := V3) (by assumption) (by repeat (first | exact List.Mem.head _ | refine List.Mem.tail _ ?_)) s1 SG.out).mono ?_; rintro e wn ⟨rfl, stn⟩)
            | (go_at_call 21; refine (dsame_bag (W := V3) (by assumption) (by repeat (first | exact List.Mem.head _ | refine List.Mem.tail _ ?_)) (by repeat (first | exact List.Mem.head _ | refine List.Mem.tail _ ?_)) true (decide_eq_true BACK.out)).mono ?_; rintro e wn ⟨rfl, stn⟩))
        clear std hw1 hst a0 a1 a2 a3 p0 p1 p2 p3 b0 b1 b2 b3 o0 o1 o2 o3
        have hst := stn
        obtain ⟨⟨a0, a1, a2, a3⟩, ⟨p0, p1, p2, p3⟩, ⟨b0, b1, b2, b3⟩, o0, o1, o2, o3⟩ := HC.out _ hst.ext
        by_cases hz : dm d = 0
        · have HZ := Lib.hid hz
          clear hz
          go_wp2_with fail
          refine (dlog_bag hst (by repeat (first | exact List.Mem.head _ | refine List.Mem.tail _ ?_)) (.returned (.tuple #[.int .i64 0, .bool false])) (fun e h => by
            rcases h with ⟨_, h⟩ | ⟨h, _⟩
            · exact h
            · exact absurd HZ.out h)).mono ?_
          rintro e wa ⟨rfl, hst⟩
          clear a0 a1 a2 a3 p0 p1 p2 p3 b0 b1 b2 b3 o0 o1 o2 o3
          obtain ⟨⟨a0, a1, a2, a3⟩, ⟨p0, p1, p2, p3⟩, ⟨b0, b1, b2, b3⟩, o0, o1, o2, o3⟩ := HC.out _ hst.ext
          go_wp2_with fail
          refine (dsign_bag hst (by repeat (first | exact List.Mem.head _ | refine List.Mem.tail _ ?_)) 0 (by rw [HZ.out]; rfl)).mono ?_
          rintro e wb ⟨rfl, hst⟩
          go_wp2_with fail
          refine (dawake_bag hst).mono ?_
          rintro e wc ⟨rfl, hst⟩
          go_wp2
          go_ret
          exact ⟨rfl, EX.out.trans hst.ext⟩
        · have HZ := Lib.hid hz
          clear hz
          obtain ⟨L1, L2, L3, L4, L5, L6, L7⟩ := slim_log SL.out HZ.out
          rw [HD1.out] at L3 L4 L6 L7
          obtain ⟨K, hK⟩ : ∃ K, dtop d - 1 = K := ⟨_, rfl⟩
          rw [hK] at L1 L3 L4 L6 L7
          have hK2 : K ≤ 4000 := by omega
          have HK := Lib.hid hK
          have L3 := Lib.hid L3; have L4 := Lib.hid L4; have L5 := Lib.hid L5; have L6 := Lib.hid L6; have L7 := Lib.hid L7
          clear hK L2
          go_wp2_with fail
          refine (dlog_bag hst (by repeat (first | exact List.Mem.head _ | refine List.Mem.tail _ ?_)) (.returned (.tuple #[.int .i64 K, .bool true])) (fun e h => by
            rcases h with ⟨h, _⟩ | ⟨_, h⟩
            · exact absurd h HZ.out
            · rw [h, HK.out])).mono ?_
          rintro e wa ⟨rfl, hst⟩
          clear a0 a1 a2 a3 p0 p1 p2 p3 b0 b1 b2 b3 o0 o1 o2 o3
          obtain ⟨⟨a0, a1, a2, a3⟩, ⟨p0, p1, p2, p3⟩, ⟨b0, b1, b2, b3⟩, o0, o1, o2, o3⟩ := HC.out _ hst.ext
          go_wp2_with fail
          obtain ⟨s2, hs2, hs3⟩ : ∃ s2, sgn3 (dm d) 0 = s2 ∧ (s2 == 0) = false := ⟨_, rfl, by
            have h2 := sgn3_cases (dm d) 0
            have h3 := HZ.out
            rw [beq_eq_false_iff_ne]
            omega⟩
          have SH := Lib.hid hs2
          clear hs2
          refine (dsign_bag hst (by repeat (first | exact List.Mem.head _ | refine List.Mem.tail _ ?_)) s2 SH.out).mono ?_
          rintro e wb ⟨rfl, hst⟩
          clear a0 a1 a2 a3 p0 p1 p2 p3 b0 b1 b2 b3 o0 o1 o2 o3
          obtain ⟨⟨a0, a1, a2, a3⟩, ⟨p0, p1, p2, p3⟩, ⟨b0, b1, b2, b3⟩, o0, o1, o2, o3⟩ := HC.out _ hst.ext
          go_upto_region 14 with fail
          obtain ⟨x1, hx1, hx2⟩ : ∃ x1, sgn3 (sc (dscale d1 K)) (sc (dabs d)) = x1 ∧ x1 ≤ 0 := ⟨_, rfl, by
            have h2 := sgn3_cases (sc (dscale d1 K)) (sc (dabs d))
            have h3 := L6.out
            omega⟩
          have SX := Lib.hid hx1
          clear hx1
          have std := hst.drew
          have hw1 : IntKind.i64.wrap (K + 1) = K + 1 := IntWalk.i64_in _ (by omega)
          go_region_held3 (fun wx => (wx.cell? ⟨B, 0, none⟩ = some (.bool ab) ∧ wx.cell? ⟨B, 1, none⟩ = some (.bool an) ∧ wx.cell? ⟨B, 2, none⟩ = some (.slice ao ak ac) ∧ wx.cell? ⟨B, 3, none⟩ = some (.int .i64 ae)) ∧ (wx.cell? ⟨g1, 0, none⟩ = some (.bool pb) ∧ wx.cell? ⟨g1, 1, none⟩ = some (.bool pn) ∧ wx.cell? ⟨g1, 2, none⟩ = some (.slice po pk pc) ∧ wx.cell? ⟨g1, 3, none⟩ = some (.int .i64 pe)) ∧ (wx.cell? ⟨g3, 0, none⟩ = some (.bool bb) ∧ wx.cell? ⟨g3, 1, none⟩ = some (.bool bn) ∧ wx.cell? ⟨g3, 2, none⟩ = some (.slice bo bk bc) ∧ wx.cell? ⟨g3, 3, none⟩ = some (.int .i64 be)) ∧ (wx.cell? ⟨g4, 0, none⟩ = some (.bool ob) ∧ wx.cell? ⟨g4, 1, none⟩ = some (.bool on) ∧ wx.cell? ⟨g4, 2, none⟩ = some (.slice oo ok oc) ∧ wx.cell? ⟨g4, 3, none⟩ = some (.int .i64 oe)))
            (first | exact HC.out _ (by exact DSt.ext (by assumption)))
            (first
              | (go_at_call 30; refine (dscale_bag (W := V3) (by assumption) (by repeat (first | exact List.Mem.head _ | refine List.Mem.tail _ ?_)) K).mono ?_; rintro e wn ⟨r, rfl, stn⟩)
              | (go_at_call 28; refine (dabs_bag (W := V3) (by assumption) (by repeat (first | exact List.Mem.head _ | refine List.Mem.tail _ ?_))).mono ?_; rintro e wn ⟨q, rfl, stn⟩)
              | (go_at_call 23; refine (dcmp_bag (W := V3) (by assumption) (by repeat (first | exact List.Mem.head _ | refine List.Mem.tail _ ?_)) (by repeat (first | exact List.Mem.head _ | refine List.Mem.tail _ ?_)) x1 L3.out L5.out SX.out).mono ?_; rintro e wn ⟨rfl, stn⟩))
          clear std hst a0 a1 a2 a3 p0 p1 p2 p3 b0 b1 b2 b3 o0 o1 o2 o3
          have hst := stn
          clear stn
          obtain ⟨⟨a0, a1, a2, a3⟩, ⟨p0, p1, p2, p3⟩, ⟨b0, b1, b2, b3⟩, o0, o1, o2, o3⟩ := HC.out _ hst.ext
          go_upto_region 15 with fail
          have std := hst.drew
          go_region_held3 (fun wx => (wx.cell? ⟨B, 0, none⟩ = some (.bool ab) ∧ wx.cell? ⟨B, 1, none⟩ = some (.bool an) ∧ wx.cell? ⟨B, 2, none⟩ = some (.slice ao ak ac) ∧ wx.cell? ⟨B, 3, none⟩ = some (.int .i64 ae)) ∧ (wx.cell? ⟨g1, 0, none⟩ = some (.bool pb) ∧ wx.cell? ⟨g1, 1, none⟩ = some (.bool pn) ∧ wx.cell? ⟨g1, 2, none⟩ = some (.slice po pk pc) ∧ wx.cell? ⟨g1, 3, none⟩ = some (.int .i64 pe)) ∧ (wx.cell? ⟨g3, 0, none⟩ = some (.bool bb) ∧ wx.cell? ⟨g3, 1, none⟩ = some (.bool bn) ∧ wx.cell? ⟨g3, 2, none⟩ = some (.slice bo bk bc) ∧ wx.cell? ⟨g3, 3, none⟩ = some (.int .i64 be)) ∧ (wx.cell? ⟨g4, 0, none⟩ = some (.bool ob) ∧ wx.cell? ⟨g4, 1, none⟩ = some (.bool on) ∧ wx.cell? ⟨g4, 2, none⟩ = some (.slice oo ok oc) ∧ wx.cell? ⟨g4, 3, none⟩ = some (.int .i64 oe)))
            (first | exact HC.out _ (by exact DSt.ext (by assumption)))
            (first
              | (go_at_call 30; refine (dscale_bag (W := V3) (by assumption) (by repeat (first | exact List.Mem.head _ | refine List.Mem.tail _ ?_)) (K + 1)).mono ?_; rintro e wn ⟨r2, rfl, stn⟩)
              | (go_at_call 28; refine (dabs_bag (W := V3) (by assumption) (by repeat (first | exact List.Mem.head _ | refine List.Mem.tail _ ?_))).mono ?_; rintro e wn ⟨q2, rfl, stn⟩)
              | (go_at_call 23; refine (dcmp_bag (W := V3) (by assumption) (by repeat (first | exact List.Mem.head _ | refine List.Mem.tail _ ?_)) (by repeat (first | exact List.Mem.head _ | refine List.Mem.tail _ ?_)) (-1) L5.out L4.out L7.out).mono ?_; rintro e wn ⟨rfl, stn⟩))
          clear std hst hw1 a0 a1 a2 a3 p0 p1 p2 p3 b0 b1 b2 b3 o0 o1 o2 o3
          have hst := stn
          clear stn
          obtain ⟨⟨a0, a1, a2, a3⟩, ⟨p0, p1, p2, p3⟩, ⟨b0, b1, b2, b3⟩, o0, o1, o2, o3⟩ := HC.out _ hst.ext
          go_wp2_with fail
          refine (dawake_bag hst).mono ?_
          rintro e wz ⟨rfl, hst⟩
          go_wp2
          go_ret
          exact ⟨rfl, EX.out.trans hst.ext⟩
  · have sa : slimSays ak ae 20 2000 = false := by simpa using sa
    go_wp2_with fail
    refine (dslim_at ab an ao ak ac ae _ false sa).mono ?_
    rintro e v1 ⟨rfl, hv1⟩
    go_wp2_with fail
    refine (dawake_any _ (HTW.out.below hv1)).mono ?_
    rintro e v2 ⟨rfl, hv2⟩
    go_wp2
    go_ret
    exact ⟨rfl, HB.out.trans (hv1.trans hv2)⟩
end Go.Proofs.YtimehdepiigkgaaDoor
