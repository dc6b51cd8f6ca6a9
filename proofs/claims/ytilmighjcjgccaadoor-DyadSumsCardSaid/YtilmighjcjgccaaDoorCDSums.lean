/- DyadSums returns true: every list. -/
import Derived.Test.YtilmighjcjgccaaDoorCDSumsL
namespace Go.Proofs.YtilmighjcjgccaaDoor
open Go Go.RowKit

set_option maxRecDepth 100000 in
set_option maxHeartbeats 64000000 in
theorem dsums_zero (ao : Option Addr) (cap : Nat) (at3 : Int) (w : World) (hT : Table w) :
    Calls Tryd.prog 3 #[.slice ao 0 cap, .int .i64 at3] w fun e w' => e = .returned (.bool true) ∧ Ext w w' := by
  have HTT := Lib.hid (fun W (hE : Ext w W) => hT.below hE)
  have AW := Lib.hid (fun W (hE : Ext w W) => dawake_any W (hT.below hE))
  have CP := Lib.hid (show ∀ W : World, Calls Tryd.prog 8 #[.int .i64 at3, .int .i64 1] W fun e w' => ∃ j : Nat, j < 1 ∧ e = .returned (.int .i64 j) ∧ W = w' from fun W => place_any at3 1 W (by omega) (by omega))
  obtain ⟨dt, hdt⟩ : ∃ dt, dtotal [] = dt := ⟨_, rfl⟩
  have HCUT : Hid (dadd dt dt = dt) := Lib.hid (by
    have := dtotal_cut (D := []) (by simp) (by simp) 0
    simp only [List.take_nil, List.drop_nil] at this
    rw [← hdt]; exact this)
  have CE := Lib.hid (show ∀ W (A : Option Addr) (ca : Nat), Ext w W → Calls Tryd.prog 9 #[.slice A 0 ca] W fun e w' => ∃ v, e = .returned v ∧ Dn w' v dt ∧ Ext W w' from fun W A ca hW => by
    rw [← hdt]; exact dsum_any _ _ _ _ _ W (DLs.nil W A ca).sl (hT.below hW) (by omega))
  have CS := Lib.hid (fun W (hW : Ext w W) => CE.out W ao cap hW)
  have CB := Lib.hid (fun W (hW : Ext w W) => CE.out W none 0 hW)
  have CR := Lib.hid (show ∀ W, Ext w W → Calls Tryd.prog 12 #[.slice ao 0 cap] W fun e w' => ∃ v, e = .returned v ∧ Dn w' v dt ∧ Ext W w' from fun W hW => by
    rw [← hdt]; exact refSum_any _ _ _ _ _ W (DLs.nil W ao cap).sl (DLs.nil W ao cap).dl (hT.below hW) (by omega))
  have hE : Ext w w := Ext.refl w
  clear hT hdt
  go_enter Tryd.func3, Tryd.ntmps3
  go_wp2
  go_loopw [5] (fun ix wr => ix = .int .i64 0 ∧ wr = w) (fun _ _ => 0)
  case atStart => exact ⟨rfl, rfl⟩
  case round =>
    obtain ⟨rfl, hw0⟩ := hrel
    subst hw0
    go_wp2
    go_loopw [6, 7] (fun bv ix wr' => bv = .slice none 0 0 ∧ ix = .int .i64 (-1) ∧ wr' = wr) (fun _ _ _ => 0)
    case atStart => exact ⟨rfl, rfl, rfl⟩
    case round =>
      obtain ⟨rfl, rfl, hw0⟩ := hrel
      subst hw0
      go_wp2_with fail
      refine (CP.out _).mono ?_
      rintro e w3 ⟨kk, hkk, rfl, rfl⟩
      obtain rfl : kk = 0 := by omega
      go_wp2_with fail
      refine (CS.out _ (Ext.refl _)).mono ?_
      rintro e w4 ⟨v, rfl, hvs, hw⟩
      obtain ⟨sb, sn, so, sk, sc, se, rfl⟩ := hvs.parts
      have hE4 := hw
      clear hw
      go_upto_region 15 with fail
      obtain ⟨V, hV, hVB, hbs, hvz⟩ := dbox_new w4 sb sn so sk sc se
      rw [← hV]
      clear hV
      have hE4 := Ext.trans hE4 hVB
      have hvs := hvs.ext hVB
      clear hVB hvz
      generalize w4.heap.size = Ps at *
      have hex : Ext V V.drew := (Below.refl _ _).drew
      have HEV := Lib.hid hE4
      have CTV := Lib.hid (fun W (A : Option Addr) (ca : Nat) (hW : Ext V W) => CE.out W A ca (Ext.trans HEV.out hW))
      have CDV := Lib.hid (fun W (A : Option Addr) (ca : Nat) (hW : Ext V W) => CE.out W A ca (Ext.trans HEV.out hW))
      have HTV := Lib.hid (fun W (hW : Ext V W) => HTT.out W (Ext.trans (Ext.trans hE HEV.out) hW))
      clear hE4
      have hzz : True := trivial
      go_cut [10] from 49 (fun pp wx => ∃ zb zn zo zk zc ze Pz, pp = .pointer (some ⟨Pz, 0, none⟩) ∧ Dn wx (.agg #[.bool zb, .bool zn, .slice zo zk zc, .int .i64 ze]) dt ∧ DBox wx Pz zb zn zo zk zc ze ∧ Ext V wx)
      case first =>
        have TAG1 := Lib.hid trivial
        go_region_with (first
          | (go_at_call 9; clear TAG1; refine (CTV.out _ _ _ (by first | assumption | exact ext_alloc0 (by assumption) _ | exact ext_ad0 _ _)).mono ?_; rintro e wa ⟨va, rfl, hva, hwa⟩; have exa : Ext V wa := Ext.trans (by first | assumption | exact ext_alloc0 (by assumption) _ | exact ext_ad0 _ _) hwa; first | (have bz := dbox_after20 (w := V) hwa; have hgz : V.heap.size ≤ V.heap.size := Nat.le_refl _) | skip)
          | (go_at_call 9; refine (CDV.out _ _ _ (by first | assumption | exact ext_alloc0 (by assumption) _ | exact ext_ad0 _ _)).mono ?_; rintro e wb ⟨vb, rfl, hvb, hwb⟩; have exb : Ext V wb := Ext.trans (by first | assumption | exact ext_alloc0 (by assumption) _ | exact ext_ad0 _ _) hwb; have hab : Ext wa wb := (by first | exact hwb | exact Ext.trans (ext_alloc0 (Ext.refl _) _) hwb); have hva := hva.ext hab; first | (have bz := bz.ext hab) | (have bz := dbox_after0 (w := wa) hwb; have hgz : V.heap.size ≤ wa.heap.size := Below.size exa) | skip)
          | (go_at_call 10; refine (dadd_any _ _ _ _ _ (by first | exact hva.dg | exact (hva.ext (ext_alloc0 (Ext.refl _) _)).dg) (by first | exact hvb.dg | exact (hvb.ext (ext_alloc0 (Ext.refl _) _)).dg) (HTV.out _ (by first | assumption | exact ext_alloc0 (by assumption) _ | exact ext_ad0 _ _))).mono ?_; rintro e wd ⟨vd, rfl, hvd, hwd⟩; rw [HCUT.out] at hvd; have exd : Ext V wd := Ext.trans (by first | assumption | exact ext_alloc0 (by assumption) _ | exact ext_ad0 _ _) hwd; have hbd : Ext wb wd := (by first | exact hwd | exact Ext.trans (ext_alloc0 (Ext.refl _) _) hwd); obtain ⟨zb, zn, zo, zk, zc, ze, rfl⟩ := hvd.parts; (first | (have bz := bz.ext hbd) | (have bz := dbox_after0 (w := wb) hwd; have hgz : V.heap.size ≤ wb.heap.size := Below.size exb) | skip); (first | (have y0 := bz.c0; have y1 := bz.c1; have y2 := bz.c2; have y3 := bz.c3; have g0 := bz.f 0; have g1 := bz.f 1; have g2 := bz.f 2; have g3 := bz.f 3) | skip)))
        all_goals
          go_wp2
          go_meet
        all_goals
          first
            | (obtain ⟨st1, st2, st3⟩ := box_stored0 (W := V) bz hvd exd hgz; exact ⟨zb, zn, zo, zk, zc, ze, _, rfl, st1, st2, st3⟩)
            | exact ⟨zb, zn, zo, zk, zc, ze, _, rfl, hvd.ext (ext_alloc0 (Ext.refl _) _), DBox.new _ zb zn zo zk zc ze, ext_alloc0 exd _⟩
      case rest =>
        obtain ⟨zb, zn, zo, zk, zc, ze, Pz, rfl, hvz, hbz, hEz⟩ := hcut
        have hvs := hvs.ext hEz
        have hbs := hbs.ext hEz
        have hE5 := Ext.trans HEV.out hEz
        clear hEz hex CTV CDV HTV HEV
        generalize wc = V3 at *
        have HC := Lib.hid (show ∀ wx, Ext V3 wx → (wx.cell? ⟨Ps, 0, none⟩ = some (.bool sb) ∧ wx.cell? ⟨Ps, 1, none⟩ = some (.bool sn) ∧ wx.cell? ⟨Ps, 2, none⟩ = some (.slice so sk sc) ∧ wx.cell? ⟨Ps, 3, none⟩ = some (.int .i64 se)) ∧ (wx.cell? ⟨Pz, 0, none⟩ = some (.bool zb) ∧ wx.cell? ⟨Pz, 1, none⟩ = some (.bool zn) ∧ wx.cell? ⟨Pz, 2, none⟩ = some (.slice zo zk zc) ∧ wx.cell? ⟨Pz, 3, none⟩ = some (.int .i64 ze)) from fun wx h => ⟨⟨(hbs.ext h).c0, (hbs.ext h).c1, (hbs.ext h).c2, (hbs.ext h).c3⟩, (hbz.ext h).c0, (hbz.ext h).c1, (hbz.ext h).c2, (hbz.ext h).c3⟩)
        clear hbs hbz
        obtain ⟨⟨k0, k1, k2, k3⟩, l0, l1, l2, l3⟩ := HC.out V3 (Ext.refl _)
        have HE := Lib.hid (Ext.trans hE hE5)
        have CRV := Lib.hid (fun W (hW : Ext V3 W) => CR.out W (Ext.trans hE5 hW))
        have CBV := Lib.hid (fun W (hW : Ext V3 W) => CB.out W (Ext.trans hE5 hW))
        have AWV := Lib.hid (fun W (hW : Ext V3 W) => AW.out W (Ext.trans HE.out hW))
        have hex : Ext V3 V3.drew := (Below.refl _ _).drew
        have st0 : DSt V3 V3.drew [⟨.agg #[.bool sb, .bool sn, .slice so sk sc, .int .i64 se], dt, true⟩, ⟨.agg #[.bool zb, .bool zn, .slice zo zk zc, .int .i64 ze], dt, true⟩] := by
          refine ⟨hex, (HTT.out _ HE.out).below hex, fun p hp => ?_⟩
          simp only [List.mem_cons, List.not_mem_nil, or_false] at hp
          rcases hp with rfl | rfl
          · exact dok_dn (hvs.ext hex)
          · exact dok_dn (hvz.ext hex)
        clear hvs hvz hE5
        go_upto_region 16 with fail
        go_region_held3 (fun wx => (wx.cell? ⟨Ps, 0, none⟩ = some (.bool sb) ∧ wx.cell? ⟨Ps, 1, none⟩ = some (.bool sn) ∧ wx.cell? ⟨Ps, 2, none⟩ = some (.slice so sk sc) ∧ wx.cell? ⟨Ps, 3, none⟩ = some (.int .i64 se)) ∧ (wx.cell? ⟨Pz, 0, none⟩ = some (.bool zb) ∧ wx.cell? ⟨Pz, 1, none⟩ = some (.bool zn) ∧ wx.cell? ⟨Pz, 2, none⟩ = some (.slice zo zk zc) ∧ wx.cell? ⟨Pz, 3, none⟩ = some (.int .i64 ze)))
          (first | exact HC.out _ (by first | assumption | exact DSt.ext (by assumption)))
          (first
            | (go_at_call 12; refine (CRV.out _ (DSt.ext (W := V3) (by assumption))).mono ?_; rintro e wn ⟨v, rfl, hv, hw⟩; have stn := DSt.push (W := V3) (by assumption) hw (dok_dn hv); clear hv hw)
            | (go_at_call 9; refine (CBV.out _ (DSt.ext (W := V3) (by assumption))).mono ?_; rintro e wn ⟨v, rfl, hv, hw⟩; have stn := DSt.push (W := V3) (by assumption) hw (dok_dn hv); clear hv hw)
            | (go_at_call 11; refine (dkit_bag (W := V3) (by assumption) (by repeat (first | exact List.Mem.head _ | refine List.Mem.tail _ ?_)) (by repeat (first | exact List.Mem.head _ | refine List.Mem.tail _ ?_)) rfl).mono ?_; rintro e wn ⟨rfl, stn⟩)
            | (go_at_call 6; refine (AWV.out _ (DSt.ext (W := V3) (by assumption))).mono ?_; rintro e wn ⟨rfl, hw⟩; have stn := DSt.step (W := V3) (by assumption) hw; clear hw))
        have hfin := Lib.hid (Ext.trans HE.out (DSt.ext (W := V3) stn))
        go_wp2
        go_ret
        exact ⟨rfl, hfin.out⟩

set_option maxRecDepth 100000 in
theorem dsums_any (ao : Option Addr) (n cap : Nat) (at3 : Int) (w : World) (hr : n ≤ cap ∧ (n = 0 ∨ ∃ b off, ∃ l : List DP, ao = some ⟨b, off, none⟩ ∧ l.length = n ∧ ∀ j, j < n → RawD1 w b off j (l.getD j DP.zero))) (hT : Table w) :
    Calls Tryd.prog 3 #[.slice ao n cap, .int .i64 at3] w fun e w' => e = .returned (.bool true) ∧ Ext w w' := by
  obtain ⟨hcap, hr⟩ := hr
  by_cases hn : n ≤ 12
  · by_cases h0 : n = 0
    · subst h0; exact dsums_zero ao cap at3 w hT
    · rcases hr with hr | ⟨b, off, l, rfl, hl, hr⟩
      · exact absurd hr h0
      · exact dsums_walk b off n cap at3 l w hl hr hT hcap hn (by omega)
  · have AW := Lib.hid (dawake_any w hT)
    have h1 : (n : Int) > 12 := by omega
    clear hr hT
    go_enter Tryd.func3, Tryd.ntmps3
    go_wp2_with fail
    refine AW.out.mono ?_
    rintro e w9 ⟨rfl, h9⟩
    go_wp2
    go_ret
    exact ⟨rfl, h9⟩
end Go.Proofs.YtilmighjcjgccaaDoor
