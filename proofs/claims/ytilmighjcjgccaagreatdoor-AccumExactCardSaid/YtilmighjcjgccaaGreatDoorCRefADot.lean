/- What the reference's Dot of floats does. -/
import Derived.Test.YtilmighjcjgccaaGreatDoorCAFold
import Derived.Test.YtilmighjcjgccaaGreatDoorCRefOf
import Derived.Test.YtilmighjcjgccaaGreatDoorIa
import Derived.Test.YtilmighjcjgccaaGreatDoorHi
namespace Go.Proofs.YtilmighjcjgccaaGreatDoor
open Go Go.RowKit

set_option maxRecDepth 100000 in
set_option maxHeartbeats 16000000 in
theorem refADot_len (ao bo : Option Addr) (n m cap cb : Nat) (x y : List Nat) (w : World) (h : Fs w ao n cap x) (h' : Fs w bo m cb y) (hnm : ¬ n = m) (D : Dy) (E : Int) (hR : dotR x y = (D, E)) :
    Calls Tryz.prog 68 #[.slice ao n cap, .slice bo m cb] w fun e w' => ∃ v, e = .returned (.tuple #[v, .int .i64 E]) ∧ Dn w' v D ∧ Ext w w' := by
  have hl := h.len
  have hl' := h'.len
  unfold dotR at hR
  rw [if_pos (by omega)] at hR
  obtain ⟨rfl, rfl⟩ := Prod.mk.inj hR
  clear hl hl' hR h h'
  go_enter Tryz.func68, Tryz.ntmps68
  go_upto_region 1 with fail
  obtain ⟨W, hW, hB, hbx, hz⟩ := dbox_new w false false none 0 0 0
  rw [← hW]
  clear hW
  generalize hBe : w.heap.size = B at *
  have HBe := Lib.hid hBe
  have HEX := Lib.hid (show ∀ wx, Below B w wx → Ext w wx from fun wx h => by rw [← hBe] at h; exact h)
  clear hBe
  have q0 := hbx.c0
  have q1 := hbx.c1
  have q2 := hbx.c2
  have q3 := hbx.c3
  have f0 := hbx.f 0
  have f1 := hbx.f 1
  have f2 := hbx.f 2
  have f3 := hbx.f 3
  have hres := dn_stored hbx (dn_zero W) w hB (Nat.le_refl B)
  have z3 := hbx.stored false false none 0 0 0
  have z0 := z3.c0
  have z1 := z3.c1
  have z2 := z3.c2
  have z4 := z3.c3
  have HRES := Lib.hid hres
  clear hres z3
  go_wp2
  refine bodyPost_ret (v := .tuple #[.agg #[.bool false, .bool false, .slice none 0 0, .int .i64 0], .int .i64 2]) (by simp [results, Tryz.results68, go_sem, z0, z1, z2, z4]) rfl ⟨_, rfl, ?_, ?_⟩
  · exact HRES.out.1
  · show Below _ _ _; rw [HBe.out]; exact HRES.out.2

set_option maxRecDepth 100000 in
set_option maxHeartbeats 16000000 in
theorem refADot_any (ao bo : Option Addr) (n m cap cb : Nat) (x y : List Nat) (w : World) (h : Fs w ao n cap x) (h' : Fs w bo m cb y) (hT : Table w) (hn : n ≤ 1000000) (D : Dy) (E : Int) (hR : dotR x y = (D, E)) :
    Calls Tryz.prog 68 #[.slice ao n cap, .slice bo m cb] w fun e w' => ∃ v, e = .returned (.tuple #[v, .int .i64 E]) ∧ Dn w' v D ∧ Ext w w' := by
  rcases Nat.decEq n m with hnm | hnm
  · exact refADot_len ao bo n m cap cb x y w h h' hnm D E hR
  subst hnm
  have hl := h.len
  have hl' := h'.len
  unfold dotR at hR
  rw [if_neg (by omega)] at hR
  have HH := Lib.hid h
  have HH' := Lib.hid h'
  have HT := Lib.hid hT
  clear hT
  cases fx : x.all finB with
  | false =>
    rw [prods_none (by omega) (Or.inl fx)] at hR
    obtain ⟨rfl, rfl⟩ := Prod.mk.inj hR
    have FX := Lib.hid (fun W (hE : Ext w W) => refFinite_any _ _ _ _ W (h.below hE) hn false fx)
    clear fx hl hl' hR h h'
    go_enter Tryz.func68, Tryz.ntmps68
    go_upto_region 1 with fail
    obtain ⟨W, hW, hB, hbx, hz⟩ := dbox_new w false false none 0 0 0
    rw [← hW]
    clear hW
    generalize hBe : w.heap.size = B at *
    have HBe := Lib.hid hBe
    have HEX := Lib.hid (show ∀ wx, Below B w wx → Ext w wx from fun wx h => by rw [← hBe] at h; exact h)
    clear hBe
    go_wp2_with fail
    refine (FX.out _ (HEX.out _ hB)).mono ?_
    rintro e w1 ⟨rfl, rfl⟩
    have q0 := hbx.c0
    have q1 := hbx.c1
    have q2 := hbx.c2
    have q3 := hbx.c3
    have f0 := hbx.f 0
    have f1 := hbx.f 1
    have f2 := hbx.f 2
    have f3 := hbx.f 3
    have hres := dn_stored hbx (dn_zero W) w hB (Nat.le_refl B)
    have z3 := hbx.stored false false none 0 0 0
    have z0 := z3.c0
    have z1 := z3.c1
    have z2 := z3.c2
    have z4 := z3.c3
    have HRES := Lib.hid hres
    clear hres z3
    go_wp2
    refine bodyPost_ret (v := .tuple #[.agg #[.bool false, .bool false, .slice none 0 0, .int .i64 0], .int .i64 4]) (by simp [results, Tryz.results68, go_sem, z0, z1, z2, z4]) rfl ⟨_, rfl, ?_, ?_⟩
    · exact HRES.out.1
    · show Below _ _ _; rw [HBe.out]; exact HRES.out.2
  | true =>
    have FX := Lib.hid (fun W (hE : Ext w W) => refFinite_any _ _ _ _ W (h.below hE) hn true fx)
    cases fy : y.all finB with
    | false =>
      rw [prods_none (by omega) (Or.inr fy)] at hR
      obtain ⟨rfl, rfl⟩ := Prod.mk.inj hR
      have FY := Lib.hid (fun W (hE : Ext w W) => refFinite_any _ _ _ _ W (h'.below hE) hn false fy)
      clear fx fy hl hl' hR h h'
      go_enter Tryz.func68, Tryz.ntmps68
      go_upto_region 1 with fail
      obtain ⟨W, hW, hB, hbx, hz⟩ := dbox_new w false false none 0 0 0
      rw [← hW]
      clear hW
      generalize hBe : w.heap.size = B at *
      have HBe := Lib.hid hBe
      have HEX := Lib.hid (show ∀ wx, Below B w wx → Ext w wx from fun wx h => by rw [← hBe] at h; exact h)
      clear hBe
      go_wp2_with fail
      refine (FX.out _ (HEX.out _ hB)).mono ?_
      rintro e w1 ⟨rfl, rfl⟩
      go_wp2_with fail
      refine (FY.out _ (HEX.out _ hB)).mono ?_
      rintro e w1 ⟨rfl, rfl⟩
      have q0 := hbx.c0
      have q1 := hbx.c1
      have q2 := hbx.c2
      have q3 := hbx.c3
      have f0 := hbx.f 0
      have f1 := hbx.f 1
      have f2 := hbx.f 2
      have f3 := hbx.f 3
      have hres := dn_stored hbx (dn_zero W) w hB (Nat.le_refl B)
      have z3 := hbx.stored false false none 0 0 0
      have z0 := z3.c0
      have z1 := z3.c1
      have z2 := z3.c2
      have z4 := z3.c3
      have HRES := Lib.hid hres
      clear hres z3
      go_wp2
      refine bodyPost_ret (v := .tuple #[.agg #[.bool false, .bool false, .slice none 0 0, .int .i64 0], .int .i64 4]) (by simp [results, Tryz.results68, go_sem, z0, z1, z2, z4]) rfl ⟨_, rfl, ?_, ?_⟩
      · exact HRES.out.1
      · show Below _ _ _; rw [HBe.out]; exact HRES.out.2
    | true =>
      have FY := Lib.hid (fun W (hE : Ext w W) => refFinite_any _ _ _ _ W (h'.below hE) hn true fy)
      have hxl : x.length ≤ 1000000 := by omega
      have hnn := prods_is hxl (all_fin fx) (all_fin fy)
      have hfp := fold_prods hxl (all_fin fx) (all_fin fy)
      unfold chk chkE at hR
      rw [if_neg hnn, if_neg hnn, ← hfp] at hR
      obtain ⟨hD, rfl⟩ := Prod.mk.inj hR
      obtain ⟨P, hP⟩ : ∃ P, prods x y = P := ⟨_, rfl⟩
      rw [hP] at hD
      have HPL := Lib.hid (show P.length = n by rw [← hP]; unfold prods; rw [List.length_zipWith, hl, hl', Nat.min_self])
      have HPJ := Lib.hid (show ∀ j, j < n → P.getD j none = dmul (fdy (x.getD j 0)) (fdy (y.getD j 0)) from fun j hj => by rw [← hP]; exact prods_getD (by omega) (by omega))
      have HD := Lib.hid hD
      clear fx fy hl hl' hR h h' hnn hfp hP hD hxl
      go_enter Tryz.func68, Tryz.ntmps68
      go_upto_region 1 with fail
      obtain ⟨W, hW, hB, hbx, hz⟩ := dbox_new w false false none 0 0 0
      rw [← hW]
      clear hW
      generalize hBe : w.heap.size = B at *
      have HBe := Lib.hid hBe
      have HEX := Lib.hid (show ∀ wx, Below B w wx → Ext w wx from fun wx h => by rw [← hBe] at h; exact h)
      clear hBe
      go_wp2_with fail
      refine (FX.out _ (HEX.out _ hB)).mono ?_
      rintro e w1 ⟨rfl, rfl⟩
      go_wp2_with fail
      refine (FY.out _ (HEX.out _ hB)).mono ?_
      rintro e w1 ⟨rfl, rfl⟩
      go_upto_region 6 with fail
      obtain ⟨V, hV, hVB, hgx, hvz⟩ := dbox_new W false false none 0 0 0
      rw [← hV]
      clear hV
      have hbx := hbx.below hVB
      have hE := hB.trans (hVB.mono (by omega))
      have hs0 : Dn V (.agg #[.bool false, .bool false, .slice none 0 0, .int .i64 0]) (foldS (P.take 0)) := by rw [List.take_zero]; exact dn_zero V
      have hBG : B < W.heap.size := by omega
      generalize W.heap.size = G at *
      clear hB hVB hz
      go_wp2
      go_loopw [7] (fun ix wr => ∃ (j : Nat) (sb sn : Bool) (so : Option Addr) (sk sc : Nat) (se : Int), j ≤ n ∧ ix = .int .i64 j ∧ Dn wr (.agg #[.bool sb, .bool sn, .slice so sk sc, .int .i64 se]) (foldS (P.take j)) ∧ DBox wr G sb sn so sk sc se ∧ DBox wr B false false none 0 0 0 ∧ Below B w wr)
        (fun ix _ => n - (intOf ix).toNat)
      case atStart => exact ⟨0, _, _, _, _, _, _, Nat.zero_le _, rfl, hs0, hgx, hbx, hE⟩
      case round =>
        obtain ⟨j, sb, sn, so, sk, sc, se, hj, rfl, hs, hgr, hbr, hE⟩ := hrel
        have hgl := hgr.lt
        have hbl := hbr.lt
        by_cases hlt : j < n
        · have h := HH.out.below (HEX.out _ hE)
          have h' := HH'.out.below (HEX.out _ hE)
          obtain ⟨b, off, rfl, hc⟩ := h.cells (by omega)
          obtain ⟨b', off', rfl, hc'⟩ := h'.cells (by omega)
          have hcj := hc j hlt
          have hcj' := hc' j hlt
          have hfl := h.getD_lt j
          have hfl' := h'.getD_lt j
          have hdj := HPJ.out j hlt
          have hsn := foldS_snoc (D := P) (j := j) (by rw [HPL.out]; exact hlt)
          obtain ⟨p, hp⟩ : ∃ p, x.getD j 0 = p := ⟨_, rfl⟩
          obtain ⟨q, hq⟩ : ∃ q, y.getD j 0 = q := ⟨_, rfl⟩
          rw [hp] at hcj hfl hdj
          rw [hq] at hcj' hfl' hdj
          rw [hdj] at hsn
          have HSN := Lib.hid hsn
          clear hc hc' h h' hp hq hdj hsn
          obtain ⟨V, hVe⟩ : ∃ V, V = wr := ⟨_, rfl⟩
          subst hVe
          have hex : Ext V V.drew := (Below.refl _ _).drew
          have HTV := Lib.hid (show ∀ wx, Ext V wx → Table wx from fun wx hx => HT.out.below (Ext.trans (HEX.out _ hE) hx))
          have C1 := Lib.hid (fun wx (hx : Ext V wx) => refOf_any p hfl wx (HTV.out _ hx))
          have C2 := Lib.hid (fun wx (hx : Ext V wx) => refOf_any q hfl' wx (HTV.out _ hx))
          have HC := Lib.hid (show ∀ wx, Ext V wx → (wx.cell? ⟨G, 0, none⟩ = some (.bool sb) ∧ wx.cell? ⟨G, 1, none⟩ = some (.bool sn) ∧ wx.cell? ⟨G, 2, none⟩ = some (.slice so sk sc) ∧ wx.cell? ⟨G, 3, none⟩ = some (.int .i64 se)) ∧ wx.cell? ⟨b', off' + j, none⟩ = some (.int .u64 (q : Int)) from fun wx h => ⟨⟨(hgr.ext h).c0, (hgr.ext h).c1, (hgr.ext h).c2, (hgr.ext h).c3⟩, by rw [h.cell (p := ⟨b', off' + j, none⟩) (lt_of_cell hcj')]; exact hcj'⟩)
          obtain ⟨⟨k0, k1, k2, k3⟩, k4⟩ := HC.out V (Ext.refl _)
          clear hcj'
          go_upto_region 9 with fail
          go_region_with (first
            | (go_at_call 55; (with_reducible refine (C1.out _ (by assumption)).mono ?_); rintro e w1 ⟨v1, rfl, hv1, hw1⟩; have ex1 : Ext V w1 := Ext.trans hex hw1; obtain ⟨⟨k0, k1, k2, k3⟩, k4⟩ := HC.out w1 ex1)
            | (go_at_call 55; (with_reducible refine (C2.out _ (by assumption)).mono ?_); rintro e w2 ⟨v2, rfl, hv2, hw2⟩; have ex2 : Ext V w2 := Ext.trans ex1 hw2; have hv1 := hv1.ext hw2; obtain ⟨⟨k0, k1, k2, k3⟩, k4⟩ := HC.out w2 ex2)
            | (go_at_call 30; refine (ref_dmul_any _ _ _ _ _ (by exact hv1.dl) (by exact hv2.dl) (by exact HTV.out _ ex2)).mono ?_; rintro e w3 ⟨v3, rfl, hv3, hw3⟩; have ex3 : Ext V w3 := Ext.trans ex2 hw3; obtain ⟨⟨k0, k1, k2, k3⟩, k4⟩ := HC.out w3 ex3)
            | (go_at_call 26; refine (ref_dadd_any _ _ _ _ _ (by exact (hs.ext ex3).dl) (by exact hv3.dl) (by exact HTV.out _ ex3)).mono ?_; rintro e w4 ⟨v4, rfl, hv4, hw4⟩; have ex4 : Ext V w4 := Ext.trans ex3 hw4; obtain ⟨rb, rn, ro, rk, rc, re, rfl⟩ := hv4.parts; have gx := hgr.ext ex4; have q0 := gx.c0; have q1 := gx.c1; have q2 := gx.c2; have q3 := gx.c3; have f0 := gx.f 0; have f1 := gx.f 1; have f2 := gx.f 2; have f3 := gx.f 3))
          all_goals
            have ho := only_set4 w4 G (.bool rb) (.bool rn) (.slice ro rk rc) (.int .i64 re)
            have R1 := hv4.only_dbox gx ho
            rw [← HSN.out] at R1
            have R2 := gx.stored rb rn ro rk rc re
            have R3 := (hbr.ext ex4).only ho (by omega)
            have R4 := (hE.trans (ex4.mono (by omega))).trans (ho.below (B := B) (by omega))
            have R := Lib.hid (And.intro R1 (And.intro R2 (And.intro R3 R4)))
            clear R1 R2 R3 R4
            go_wp2
            go_roundw
          all_goals
            first
              | (simp [intOf] <;> omega)
              | exact ⟨j + 1, _, _, _, _, _, _, by omega, by go_num, R.out.1, R.out.2.1, R.out.2.2.1, R.out.2.2.2⟩
        · obtain rfl : j = n := by omega
          have ht : P.take j = P := List.take_of_length_le (by rw [HPL.out]; exact Nat.le_refl _)
          rw [ht] at hs
          have k0 := hgr.c0
          have k1 := hgr.c1
          have k2 := hgr.c2
          have k3 := hgr.c3
          have q0 := hbr.c0
          have q1 := hbr.c1
          have q2 := hbr.c2
          have q3 := hbr.c3
          have f0 := hbr.f 0
          have f1 := hbr.f 1
          have f2 := hbr.f 2
          have f3 := hbr.f 3
          have hres := dn_stored hbr hs w hE (Nat.le_refl B)
          have z3 := hbr.stored sb sn so sk sc se
          have z0 := z3.c0
          have z1 := z3.c1
          have z2 := z3.c2
          have z4 := z3.c3
          have HRES := Lib.hid hres
          clear hres z3
          go_wp2
          refine bodyPost_ret (v := .tuple #[.agg #[.bool sb, .bool sn, .slice so sk sc, .int .i64 se], .int .i64 0]) (by simp [results, Tryz.results68, go_sem, z0, z1, z2, z4]) rfl ⟨_, rfl, ?_, ?_⟩
          · rw [← HD.out]; exact HRES.out.1
          · show Below _ _ _; rw [HBe.out]; exact HRES.out.2
end Go.Proofs.YtilmighjcjgccaaGreatDoor
