import Derived.Test.YtolghagbpnjpgaaGreatDoorANormU27
import Derived.Test.YtolghagbpnjpgaaGreatDoorANormU33
import Derived.Test.YtolghagbpnjpgaaGreatDoorANormU37
import Derived.Test.YtolghagbpnjpgaaGreatDoorANormU38
import Derived.Test.YtolghagbpnjpgaaGreatDoorANormU28
import Derived.Test.YtolghagbpnjpgaaGreatDoorANormU15
import Derived.Test.YtolghagbpnjpgaaGreatDoorANormU10
import Derived.Test.YtolghagbpnjpgaaGreatDoorANormU11
import Derived.Test.YtolghagbpnjpgaaGreatDoorANormU29
namespace Go.Proofs.YtolghagbpnjpgaaGreatDoor
open Go Go.RowKit

set_option maxRecDepth 100000 in
set_option maxHeartbeats 16000000 in
theorem refADot_len (ao bo : Option Addr) (n m cap cb : Nat) (x y : List Nat) (w : World) (h : Fs w ao n cap x) (h' : Fs w bo m cb y) (hnm : ¬ n = m) (D : Dy) (E : Int) (hR : dotR x y = (D, E)) :
    Calls Tryz.prog 128 #[.slice ao n cap, .slice bo m cb] w fun e w' => ∃ v, e = .returned (.tuple #[v, .int .i64 E]) ∧ Dn w' v D ∧ Ext w w' := by
  have hl := h.len
  have hl' := h'.len
  unfold dotR at hR
  rw [if_pos (by omega)] at hR
  obtain ⟨rfl, rfl⟩ := Prod.mk.inj hR
  clear hl hl' hR h h'
  go_enter Tryz.func128, Tryz.ntmps128
  go_upto_region 1 with fail
  obtain ⟨W, hW, hB, hbx, hz⟩ := dbox_new w false false none 0 0 0
  rw [← hW]
  clear hW
  generalize hBe : w.heap.size = B at *
  have HBe := Lib.hid hBe
  have HEX := Lib.hid (show ∀ wx, Below B w wx → Ext w wx from fun wx h => by rw [← hBe] at h; exact h)
  clear hBe
  have q0 := hbx.c0
  have q1 := hbx.c1
  have q2 := hbx.c2
  have q3 := hbx.c3
  have f0 := hbx.f 0
  have f1 := hbx.f 1
  have f2 := hbx.f 2
  have f3 := hbx.f 3
  have hres := dn_stored hbx (dn_zero W) w hB (Nat.le_refl B)
  have z3 := hbx.stored false false none 0 0 0
  have z0 := z3.c0
  have z1 := z3.c1
  have z2 := z3.c2
  have z4 := z3.c3
  have HRES := Lib.hid hres
  clear hres z3
  go_wp2
  refine bodyPost_ret (v := .tuple #[.agg #[.bool false, .bool false, .slice none 0 0, .int .i64 0], .int .i64 2]) (by simp [results, Tryz.results128, go_sem, z0, z1, z2, z4]) rfl ⟨_, rfl, ?_, ?_⟩
  · exact HRES.out.1
  · show Below _ _ _; rw [HBe.out]; exact HRES.out.2

set_option maxRecDepth 100000 in
set_option maxHeartbeats 16000000 in
theorem refADot_any (ao bo : Option Addr) (n m cap cb : Nat) (x y : List Nat) (w : World) (h : Fs w ao n cap x) (h' : Fs w bo m cb y) (hT : Table w) (hn : n ≤ 1000000) (D : Dy) (E : Int) (hR : dotR x y = (D, E)) :
    Calls Tryz.prog 128 #[.slice ao n cap, .slice bo m cb] w fun e w' => ∃ v, e = .returned (.tuple #[v, .int .i64 E]) ∧ Dn w' v D ∧ Ext w w' := by
  rcases Nat.decEq n m with hnm | hnm
  · exact refADot_len ao bo n m cap cb x y w h h' hnm D E hR
  subst hnm
  have hl := h.len
  have hl' := h'.len
  unfold dotR at hR
  rw [if_neg (by omega)] at hR
  have HH := Lib.hid h
  have HH' := Lib.hid h'
  have HT := Lib.hid hT
  clear hT
  cases fx : x.all finB with
  | false =>
    rw [prods_none (by omega) (Or.inl fx)] at hR
    obtain ⟨rfl, rfl⟩ := Prod.mk.inj hR
    have FX := Lib.hid (fun W (hE : Ext w W) => refFinite_any _ _ _ _ W (h.below hE) hn false fx)
    clear fx hl hl' hR h h'
    go_enter Tryz.func128, Tryz.ntmps128
    go_upto_region 1 with fail
    obtain ⟨W, hW, hB, hbx, hz⟩ := dbox_new w false false none 0 0 0
    rw [← hW]
    clear hW
    generalize hBe : w.heap.size = B at *
    have HBe := Lib.hid hBe
    have HEX := Lib.hid (show ∀ wx, Below B w wx → Ext w wx from fun wx h => by rw [← hBe] at h; exact h)
    clear hBe
    go_wp2_with fail
    refine (FX.out _ (HEX.out _ hB)).mono ?_
    rintro e w1 ⟨rfl, rfl⟩
    have q0 := hbx.c0
    have q1 := hbx.c1
    have q2 := hbx.c2
    have q3 := hbx.c3
    have f0 := hbx.f 0
    have f1 := hbx.f 1
    have f2 := hbx.f 2
    have f3 := hbx.f 3
    have hres := dn_stored hbx (dn_zero W) w hB (Nat.le_refl B)
    have z3 := hbx.stored false false none 0 0 0
    have z0 := z3.c0
    have z1 := z3.c1
    have z2 := z3.c2
    have z4 := z3.c3
    have HRES := Lib.hid hres
    clear hres z3
    go_wp2
    refine bodyPost_ret (v := .tuple #[.agg #[.bool false, .bool false, .slice none 0 0, .int .i64 0], .int .i64 4]) (by simp [results, Tryz.results128, go_sem, z0, z1, z2, z4]) rfl ⟨_, rfl, ?_, ?_⟩
    · exact HRES.out.1
    · show Below _ _ _; rw [HBe.out]; exact HRES.out.2
  | true =>
    have FX := Lib.hid (fun W (hE : Ext w W) => refFinite_any _ _ _ _ W (h.below hE) hn true fx)
    cases fy : y.all finB with
    | false =>
      rw [prods_none (by omega) (Or.inr fy)] at hR
      obtain ⟨rfl, rfl⟩ := Prod.mk.inj hR
      have FY := Lib.hid (fun W (hE : Ext w W) => refFinite_any _ _ _ _ W (h'.below hE) hn false fy)
      clear fx fy hl hl' hR h h'
      go_enter Tryz.func128, Tryz.ntmps128
      go_upto_region 1 with fail
      obtain ⟨W, hW, hB, hbx, hz⟩ := dbox_new w false false none 0 0 0
      rw [← hW]
      clear hW
      generalize hBe : w.heap.size = B at *
      have HBe := Lib.hid hBe
      have HEX := Lib.hid (show ∀ wx, Below B w wx → Ext w wx from fun wx h => by rw [← hBe] at h; exact h)
      clear hBe
      go_wp2_with fail
      refine (FX.out _ (HEX.out _ hB)).mono ?_
      rintro e w1 ⟨rfl, rfl⟩
      go_wp2_with fail
      refine (FY.out _ (HEX.out _ hB)).mono ?_
      rintro e w1 ⟨rfl, rfl⟩
      have q0 := hbx.c0
      have q1 := hbx.c1
      have q2 := hbx.c2
      have q3 := hbx.c3
      have f0 := hbx.f 0
      have f1 := hbx.f 1
      have f2 := hbx.f 2
      have f3 := hbx.f 3
      have hres := dn_stored hbx (dn_zero W) w hB (Nat.le_refl B)
      have z3 := hbx.stored false false none 0 0 0
      have z0 := z3.c0
      have z1 := z3.c1
      have z2 := z3.c2
      have z4 := z3.c3
      have HRES := Lib.hid hres
      clear hres z3
      go_wp2
      refine bodyPost_ret (v := .tuple #[.agg #[.bool false, .bool false, .slice none 0 0, .int .i64 0], .int .i64 4]) (by simp [results, Tryz.results128, go_sem, z0, z1, z2, z4]) rfl ⟨_, rfl, ?_, ?_⟩
      · exact HRES.out.1
      · show Below _ _ _; rw [HBe.out]; exact HRES.out.2
    | true =>
      have FY := Lib.hid (fun W (hE : Ext w W) => refFinite_any _ _ _ _ W (h'.below hE) hn true fy)
      have hxl : x.length ≤ 1000000 := by omega
      have hnn := prods_is hxl (all_fin fx) (all_fin fy)
      have hfp := fold_prods hxl (all_fin fx) (all_fin fy)
      unfold chk chkE at hR
      rw [if_neg hnn, if_neg hnn, ← hfp] at hR
      obtain ⟨hD, rfl⟩ := Prod.mk.inj hR
      obtain ⟨P, hP⟩ : ∃ P, prods x y = P := ⟨_, rfl⟩
      rw [hP] at hD
      have HPL := Lib.hid (show P.length = n by rw [← hP]; unfold prods; rw [List.length_zipWith, hl, hl', Nat.min_self])
      have HPJ := Lib.hid (show ∀ j, j < n → P.getD j none = dmul (fdy (x.getD j 0)) (fdy (y.getD j 0)) from fun j hj => by rw [← hP]; exact prods_getD (by omega) (by omega))
      have HD := Lib.hid hD
      clear fx fy hl hl' hR h h' hnn hfp hP hD hxl
      go_enter Tryz.func128, Tryz.ntmps128
      go_upto_region 1 with fail
      obtain ⟨W, hW, hB, hbx, hz⟩ := dbox_new w false false none 0 0 0
      rw [← hW]
      clear hW
      generalize hBe : w.heap.size = B at *
      have HBe := Lib.hid hBe
      have HEX := Lib.hid (show ∀ wx, Below B w wx → Ext w wx from fun wx h => by rw [← hBe] at h; exact h)
      clear hBe
      go_wp2_with fail
      refine (FX.out _ (HEX.out _ hB)).mono ?_
      rintro e w1 ⟨rfl, rfl⟩
      go_wp2_with fail
      refine (FY.out _ (HEX.out _ hB)).mono ?_
      rintro e w1 ⟨rfl, rfl⟩
      go_upto_region 6 with fail
      obtain ⟨V, hV, hVB, hgx, hvz⟩ := dbox_new W false false none 0 0 0
      rw [← hV]
      clear hV
      have hbx := hbx.below hVB
      have hE := hB.trans (hVB.mono (by omega))
      have hs0 : Dn V (.agg #[.bool false, .bool false, .slice none 0 0, .int .i64 0]) (foldS (P.take 0)) := by rw [List.take_zero]; exact dn_zero V
      have hBG : B < W.heap.size := by omega
      generalize W.heap.size = G at *
      clear hB hVB hz
      go_wp2
      go_loopw [7] (fun ix wr => ∃ (j : Nat) (sb sn : Bool) (so : Option Addr) (sk sc : Nat) (se : Int), j ≤ n ∧ ix = .int .i64 j ∧ Dn wr (.agg #[.bool sb, .bool sn, .slice so sk sc, .int .i64 se]) (foldS (P.take j)) ∧ DBox wr G sb sn so sk sc se ∧ DBox wr B false false none 0 0 0 ∧ Below B w wr)
        (fun ix _ => n - (intOf ix).toNat)
      case atStart => exact ⟨0, _, _, _, _, _, _, Nat.zero_le _, rfl, hs0, hgx, hbx, hE⟩
      case round =>
        obtain ⟨j, sb, sn, so, sk, sc, se, hj, rfl, hs, hgr, hbr, hE⟩ := hrel
        have hgl := hgr.lt
        have hbl := hbr.lt
        by_cases hlt : j < n
        · have h := HH.out.below (HEX.out _ hE)
          have h' := HH'.out.below (HEX.out _ hE)
          obtain ⟨b, off, rfl, hc⟩ := h.cells (by omega)
          obtain ⟨b', off', rfl, hc'⟩ := h'.cells (by omega)
          have hcj := hc j hlt
          have hcj' := hc' j hlt
          have hfl := h.getD_lt j
          have hfl' := h'.getD_lt j
          have hdj := HPJ.out j hlt
          have hsn := foldS_snoc (D := P) (j := j) (by rw [HPL.out]; exact hlt)
          obtain ⟨p, hp⟩ : ∃ p, x.getD j 0 = p := ⟨_, rfl⟩
          obtain ⟨q, hq⟩ : ∃ q, y.getD j 0 = q := ⟨_, rfl⟩
          rw [hp] at hcj hfl hdj
          rw [hq] at hcj' hfl' hdj
          rw [hdj] at hsn
          have HSN := Lib.hid hsn
          clear hc hc' h h' hp hq hdj hsn
          obtain ⟨V, hVe⟩ : ∃ V, V = wr := ⟨_, rfl⟩
          subst hVe
          have hex : Ext V V.drew := (Below.refl _ _).drew
          have HTV := Lib.hid (show ∀ wx, Ext V wx → Table wx from fun wx hx => HT.out.below (Ext.trans (HEX.out _ hE) hx))
          have C1 := Lib.hid (fun wx (hx : Ext V wx) => refOf_any p hfl wx (HTV.out _ hx))
          have C2 := Lib.hid (fun wx (hx : Ext V wx) => refOf_any q hfl' wx (HTV.out _ hx))
          have HC := Lib.hid (show ∀ wx, Ext V wx → (wx.cell? ⟨G, 0, none⟩ = some (.bool sb) ∧ wx.cell? ⟨G, 1, none⟩ = some (.bool sn) ∧ wx.cell? ⟨G, 2, none⟩ = some (.slice so sk sc) ∧ wx.cell? ⟨G, 3, none⟩ = some (.int .i64 se)) ∧ wx.cell? ⟨b', off' + j, none⟩ = some (.int .u64 (q : Int)) from fun wx h => ⟨⟨(hgr.ext h).c0, (hgr.ext h).c1, (hgr.ext h).c2, (hgr.ext h).c3⟩, by rw [h.cell (p := ⟨b', off' + j, none⟩) (lt_of_cell hcj')]; exact hcj'⟩)
          obtain ⟨⟨k0, k1, k2, k3⟩, k4⟩ := HC.out V (Ext.refl _)
          clear hcj'
          go_upto_region 9 with fail
          go_region_with (first
            | (go_at_call 60; (with_reducible refine (C1.out _ (by assumption)).mono ?_); rintro e w1 ⟨v1, rfl, hv1, hw1⟩; have ex1 : Ext V w1 := Ext.trans hex hw1; obtain ⟨⟨k0, k1, k2, k3⟩, k4⟩ := HC.out w1 ex1)
            | (go_at_call 60; (with_reducible refine (C2.out _ (by assumption)).mono ?_); rintro e w2 ⟨v2, rfl, hv2, hw2⟩; have ex2 : Ext V w2 := Ext.trans ex1 hw2; have hv1 := hv1.ext hw2; obtain ⟨⟨k0, k1, k2, k3⟩, k4⟩ := HC.out w2 ex2)
            | (go_at_call 68; refine (ref_dmul_any _ _ _ _ _ (by exact hv1.dl) (by exact hv2.dl) (by exact HTV.out _ ex2)).mono ?_; rintro e w3 ⟨v3, rfl, hv3, hw3⟩; have ex3 : Ext V w3 := Ext.trans ex2 hw3; obtain ⟨⟨k0, k1, k2, k3⟩, k4⟩ := HC.out w3 ex3)
            | (go_at_call 59; refine (ref_dadd_any _ _ _ _ _ (by exact (hs.ext ex3).dl) (by exact hv3.dl) (by exact HTV.out _ ex3)).mono ?_; rintro e w4 ⟨v4, rfl, hv4, hw4⟩; have ex4 : Ext V w4 := Ext.trans ex3 hw4; obtain ⟨rb, rn, ro, rk, rc, re, rfl⟩ := hv4.parts; have gx := hgr.ext ex4; have q0 := gx.c0; have q1 := gx.c1; have q2 := gx.c2; have q3 := gx.c3; have f0 := gx.f 0; have f1 := gx.f 1; have f2 := gx.f 2; have f3 := gx.f 3))
          all_goals
            have ho := only_set4 w4 G (.bool rb) (.bool rn) (.slice ro rk rc) (.int .i64 re)
            have R1 := hv4.only_dbox gx ho
            rw [← HSN.out] at R1
            have R2 := gx.stored rb rn ro rk rc re
            have R3 := (hbr.ext ex4).only ho (by omega)
            have R4 := (hE.trans (ex4.mono (by omega))).trans (ho.below (B := B) (by omega))
            have R := Lib.hid (And.intro R1 (And.intro R2 (And.intro R3 R4)))
            clear R1 R2 R3 R4
            go_wp2
            go_roundw
          all_goals
            first
              | (simp [intOf] <;> omega)
              | exact ⟨j + 1, _, _, _, _, _, _, by omega, by go_num, R.out.1, R.out.2.1, R.out.2.2.1, R.out.2.2.2⟩
        · obtain rfl : j = n := by omega
          have ht : P.take j = P := List.take_of_length_le (by rw [HPL.out]; exact Nat.le_refl _)
          rw [ht] at hs
          have k0 := hgr.c0
          have k1 := hgr.c1
          have k2 := hgr.c2
          have k3 := hgr.c3
          have q0 := hbr.c0
          have q1 := hbr.c1
          have q2 := hbr.c2
          have q3 := hbr.c3
          have f0 := hbr.f 0
          have f1 := hbr.f 1
          have f2 := hbr.f 2
          have f3 := hbr.f 3
          have hres := dn_stored hbr hs w hE (Nat.le_refl B)
          have z3 := hbr.stored sb sn so sk sc se
          have z0 := z3.c0
          have z1 := z3.c1
          have z2 := z3.c2
          have z4 := z3.c3
          have HRES := Lib.hid hres
          clear hres z3
          go_wp2
          refine bodyPost_ret (v := .tuple #[.agg #[.bool sb, .bool sn, .slice so sk sc, .int .i64 se], .int .i64 0]) (by simp [results, Tryz.results128, go_sem, z0, z1, z2, z4]) rfl ⟨_, rfl, ?_, ?_⟩
          · rw [← HD.out]; exact HRES.out.1
          · show Below _ _ _; rw [HBe.out]; exact HRES.out.2
end Go.Proofs.YtolghagbpnjpgaaGreatDoor

namespace Go.Proofs.YtolghagbpnjpgaaGreatDoor
open Go Go.RowKit

set_option maxRecDepth 100000 in
set_option maxHeartbeats 4000000 in
theorem adot_len (ao bo : Option Addr) (n m cap cb : Nat) (w : World) (hnm : ¬ n = m) :
    Calls Tryz.prog 127 #[.slice ao n cap, .slice bo m cb] w fun e w' => ∃ v, e = .returned (.tuple #[v, .int .i64 2]) ∧ Dn w' v (some (0, 0)) ∧ Ext w w' := by
  go_enter Tryz.func127, Tryz.ntmps127
  go_upto_region 1 with fail
  obtain ⟨W, hW, hB, hbx, hz⟩ := dbox_new w false false none 0 0 0
  rw [← hW]
  clear hW
  generalize hBe : w.heap.size = B at *
  have HBe := Lib.hid hBe
  clear hBe
  have q0 := hbx.c0
  have q1 := hbx.c1
  have q2 := hbx.c2
  have q3 := hbx.c3
  have f0 := hbx.f 0
  have f1 := hbx.f 1
  have f2 := hbx.f 2
  have f3 := hbx.f 3
  have hres := dn_stored hbx (dn_zero W) w hB (Nat.le_refl B)
  have z3 := hbx.stored false false none 0 0 0
  have z0 := z3.c0
  have z1 := z3.c1
  have z2 := z3.c2
  have z4 := z3.c3
  have HRES := Lib.hid hres
  clear hres z3
  go_wp2
  refine bodyPost_ret (v := .tuple #[.agg #[.bool false, .bool false, .slice none 0 0, .int .i64 0], .int .i64 2]) (by simp [results, Tryz.results127, go_sem, z0, z1, z2, z4]) rfl ⟨_, rfl, ?_, ?_⟩
  · exact HRES.out.1
  · show Below _ _ _; rw [HBe.out]; exact HRES.out.2

theorem adotR_any (ao bo : Option Addr) (n m cap cb : Nat) (x y : List Nat) (w : World) (h : Fs w ao n cap x) (h' : Fs w bo m cb y) (hT : Table w) (hT6 : Table64 w) (hn : n ≤ 1000000) (D : Dy) (E : Int) (hR : dotR x y = (D, E)) :
    Calls Tryz.prog 127 #[.slice ao n cap, .slice bo m cb] w fun e w' => ∃ v, e = .returned (.tuple #[v, .int .i64 E]) ∧ Dn w' v D ∧ Ext w w' := by
  have hl := h.len
  have hl' := h'.len
  rcases Nat.decEq n m with hnm | hnm
  · unfold dotR at hR
    rw [if_pos (by omega)] at hR
    obtain ⟨rfl, rfl⟩ := Prod.mk.inj hR
    exact adot_len ao bo n m cap cb w hnm
  · subst hnm
    unfold dotR at hR
    rw [if_neg (by omega)] at hR
    obtain ⟨rfl, rfl⟩ := Prod.mk.inj hR
    exact adot_any ao bo n cap cb x y w h h' hT hT6 hn

end Go.Proofs.YtolghagbpnjpgaaGreatDoor

namespace Go.Proofs.YtolghagbpnjpgaaGreatDoor
open Go.RowKit

theorem and_one_i64 (e : Int) : bits BinOp.and IntKind.i64 e 1 = e % 2 := by
  have h1 : (BitVec.ofInt 64 e).toNat = (e % 18446744073709551616).toNat := by
    rw [BitVec.toNat_ofInt]; rfl
  have h2 : (BitVec.ofInt 64 (1 : Int)).toNat = 1 := by decide
  show IntKind.i64.wrap ((BitVec.ofInt 64 e &&& BitVec.ofInt 64 1).toNat : Int) = _
  rw [BitVec.toNat_and, h1, h2, Nat.and_one_is_mod, IntKind.wrap_i64]
  omega

/-- a root's number: what is under it, and where -/
structure RootOf (N : Nat) (e : Int) (M hi lo r : Nat) (E : Int) (s : Nat) : Prop where
  val : M = N * 2 ^ s
  exp : 2 * E + s = e
  words : hi * 18446744073709551616 + lo = M
  hlo : lo < 18446744073709551616
  hi0 : 1152921504606846976 ≤ hi
  hi1 : hi < 4611686018427387904
  r0 : r * r ≤ M
  r1 : M < (r + 1) * (r + 1)
  r2 : 4611686018427387904 ≤ r
  r3 : r < 9223372036854775808

theorem div_at {hi lo r : Nat} (hl : lo < 18446744073709551616) (h0 : hi ≠ 0) (h1 : hi < 4611686018427387904) (hr : 4611686018427387904 ≤ r) (hr2 : r ≤ 9223372036854775808) (w : World) :
    Calls Tryz.prog 135 #[.int .u64 (hi : Int), .int .u64 (lo : Int), .int .u64 (r : Int)] w fun e w' => e = .returned (.tuple #[.int .u64 (((hi * 18446744073709551616 + lo) / r : Nat) : Int), .int .u64 (((hi * 18446744073709551616 + lo) % r : Nat) : Int)]) ∧ w = w' := by
  by_cases h : r = 9223372036854775808
  · exact div64_any hi lo r 0 (by omega) h0 hl (by rw [h]; decide) (by rw [h]; decide) (by omega) w
  · exact div64_any hi lo r 1 (by omega) h0 hl (show 2 ^ 62 ≤ r from hr) (show r < 2 ^ 63 by omega) (by omega) w

set_option maxRecDepth 100000 in
set_option maxHeartbeats 2000000 in
theorem wordRoot_any {hi lo s : Nat} (hl : lo < 18446744073709551616) (h0 : 1152921504606846976 ≤ hi) (h1 : hi < 4611686018427387904) (r1 : s * s ≤ hi * 18446744073709551616 + lo) (r2 : hi * 18446744073709551616 + lo < (s + 1) * (s + 1)) (b1 : 4611686018427387904 ≤ s) (b2 : s < 9223372036854775808) (w : World) :
    Calls Tryz.prog 142 #[.int .u64 (hi : Int), .int .u64 (lo : Int)] w fun e w' => e = .returned (.int .u64 (s : Int)) ∧ w = w' := by
  have CD := Lib.hid (fun r (hr : s ≤ r) (hr2 : r ≤ 9223372036854775808) w => div_at (hi := hi) (lo := lo) (r := r) hl (by omega) h1 (by omega) hr2 w)
  have NE := Lib.hid (fun r (hs : s ≤ r) (hq : r ≤ (hi * 18446744073709551616 + lo) / r) => newton_end (N := hi * 18446744073709551616 + lo) (r := r) r2 hs (by omega) hq)
  have NS := Lib.hid (fun r (hs : s ≤ r) (hq : (hi * 18446744073709551616 + lo) / r < r) => newton_down (N := hi * 18446744073709551616 + lo) (r := r) r1 hs (by omega) hq)
  clear r1 r2 hl h0 h1
  go_enter Tryz.func142, Tryz.ntmps142
  go_wp2
  go_loopw [5] (fun q wx => ∃ r : Nat, q = .int .u64 (r : Int) ∧ s ≤ r ∧ r ≤ 9223372036854775808 ∧ w = wx) (fun q _ => (intOf q).toNat)
  case atStart => exact ⟨9223372036854775808, rfl, by omega, by omega, rfl⟩
  case round =>
    obtain ⟨r, rfl, h3, h4, rfl⟩ := hrel
    obtain ⟨Q, hQ⟩ : ∃ Q, (hi * 18446744073709551616 + lo) / r = Q := ⟨_, rfl⟩
    have CD1 := CD.out r h3 h4
    have NE1 := NE.out r h3
    have NS1 := NS.out r h3
    rw [hQ] at CD1 NE1 NS1
    have CD1 := Lib.hid CD1
    have NE1 := Lib.hid NE1
    have NS1 := Lib.hid NS1
    clear hQ
    by_cases hq : r ≤ Q
    · have hqi : (r : Int) ≤ (Q : Int) := by omega
      have HE := Lib.hid (NE1.out hq)
      clear hq
      go_wp2_with fail
      refine (CD1.out _).mono ?_
      rintro e w1 ⟨rfl, rfl⟩
      go_wp2
      go_ret
      refine ⟨?_, rfl⟩
      show Ending.returned (.int .u64 (r : Int)) = _
      rw [HE.out]
    · have hqi : ¬ (r : Int) ≤ (Q : Int) := by omega
      obtain ⟨k1, k2⟩ := NS1.out (by omega)
      have hw : IntKind.u64.wrap ((r : Int) + (Q : Int)) = (r : Int) + (Q : Int) := by rw [IntKind.wrap_u64]; omega
      have hd : ((r : Int) + (Q : Int)) / 2 = (((r + Q) / 2 : Nat) : Int) := by omega
      have HD := Lib.hid hd
      clear hd
      generalize (r + Q) / 2 = r' at *
      clear hq
      go_wp2_with fail
      refine (CD1.out _).mono ?_
      rintro e w1 ⟨rfl, rfl⟩
      go_wp2
      go_roundw
      case rel => exact ⟨r', by first | rfl | exact congrArg (Value.int IntKind.u64) HD.out, k1, by omega, by first | rfl | trivial⟩
      case measure => simp [intOf]; omega

end Go.Proofs.YtolghagbpnjpgaaGreatDoor

namespace Go.Proofs.YtolghagbpnjpgaaGreatDoor

theorem root_cut {Z m : Nat} : isq Z / 2 ^ m = isq (Z / (2 ^ m * 2 ^ m)) ∧ (decide (isq Z * isq Z ≠ Z) || decide (isq Z % 2 ^ m ≠ 0)) = (decide (Z % (2 ^ m * 2 ^ m) ≠ 0) || decide (isq (Z / (2 ^ m * 2 ^ m)) * isq (Z / (2 ^ m * 2 ^ m)) ≠ Z / (2 ^ m * 2 ^ m))) := by
  have hJ : 0 < 2 ^ m := Nat.pow_pos (by omega)
  generalize 2 ^ m = J at *
  have hJJ : 0 < J * J := Nat.mul_pos hJ hJ
  have hsq : ∀ c : Nat, c * c * (J * J) = (c * J) * (c * J) := fun c => by rw [Nat.mul_mul_mul_comm]
  have hL : ∀ c : Nat, c ≤ isq Z / J ↔ c ≤ isq (Z / (J * J)) := by
    intro c
    rw [Nat.le_div_iff_mul_le hJ, isq_le, isq_le, Nat.le_div_iff_mul_le hJJ, hsq]
  have hR : isq Z / J = isq (Z / (J * J)) := Nat.le_antisymm ((hL _).1 (Nat.le_refl _)) ((hL _).2 (Nat.le_refl _))
  refine ⟨hR, ?_⟩
  have hd := Nat.div_add_mod (isq Z) J
  have hz := Nat.div_add_mod Z (J * J)
  rw [hR] at hd
  rw [← Bool.decide_or, ← Bool.decide_or]
  apply decide_eq_decide.2
  constructor
  · intro h
    by_cases h1 : Z % (J * J) = 0
    · right
      intro h2
      rw [h1, Nat.add_zero, Nat.mul_comm, ← h2, hsq] at hz
      have h3 : isq Z = isq (Z / (J * J)) * J := by
        have h4 : isq ((isq (Z / (J * J)) * J) * (isq (Z / (J * J)) * J)) = isq (Z / (J * J)) * J := isq_sq _
        rw [hz] at h4
        exact h4
      rcases h with h | h
      · apply h; rw [h3, hz]
      · apply h; rw [h3]; exact Nat.mul_mod_left _ _
    · exact Or.inl h1
  · intro h
    by_cases h1 : isq Z % J = 0
    · left
      intro h2
      rw [h1, Nat.add_zero, Nat.mul_comm] at hd
      have h3 : Z = isq (Z / (J * J)) * isq (Z / (J * J)) * (J * J) := by rw [hsq, hd]; exact h2.symm
      rcases h with h | h
      · apply h; rw [h3]; exact Nat.mul_mod_left _ _
      · apply h
        have h5 : Z / (J * J) = isq (Z / (J * J)) * isq (Z / (J * J)) := by
          conv => lhs; rw [h3]
          exact Nat.mul_div_cancel _ hJJ
        exact h5.symm
    · exact Or.inr h1
/-- a root, and whether it is a little too small -/
structure RootG (A : Nat) (ea : Int) (r : Nat) (E : Int) (T : Bool) : Prop where
  r2 : 4611686018427387904 ≤ r
  r3 : r < 9223372036854775808
  val : ∃ a b : Nat, ea - (a : Int) + b = 2 * E ∧ r = isq (A * 2 ^ a / 2 ^ b) ∧ T = (decide (A * 2 ^ a % 2 ^ b ≠ 0) || decide (r * r ≠ A * 2 ^ a / 2 ^ b))
theorem RootG.fla {A r : Nat} {ea E : Int} {T : Bool} (h : RootG A ea r E T) (hA : A ≠ 0) (mode : Int) : fla false r E T mode = rootV (some ((A : Int), ea)) mode := by
  obtain ⟨r2, r3, a, b, hE, hr, hT⟩ := h
  have hp : 0 < 2 ^ b := Nat.pow_pos (by omega)
  have hZ : A * 2 ^ (a + b) = A * 2 ^ a * 2 ^ b := by rw [Nat.pow_add, Nat.mul_assoc]
  obtain ⟨c1, c2⟩ := root_cut (Z := A * 2 ^ (a + b)) (m := b)
  have d1 : A * 2 ^ (a + b) / (2 ^ b * 2 ^ b) = A * 2 ^ a / 2 ^ b := by rw [hZ, Nat.mul_div_mul_right _ _ hp]
  have d2 : decide (A * 2 ^ (a + b) % (2 ^ b * 2 ^ b) ≠ 0) = decide (A * 2 ^ a % 2 ^ b ≠ 0) := by
    rw [hZ, Nat.mul_mod_mul_right]
    apply decide_eq_decide.2
    constructor
    · intro h1 h2; exact h1 (by rw [h2, Nat.zero_mul])
    · intro h1 h2
      rcases Nat.mul_eq_zero.1 h2 with h3 | h3
      · exact h1 h3
      · omega
  rw [d1] at c1 c2
  rw [d2, ← hr, ← hT] at c2
  rw [← hr] at c1
  have h53 : 2 ^ 53 ≤ r := Nat.le_trans (by decide) r2
  have h1 := fla_tail false (N := isq (A * 2 ^ (a + b))) ((ea - ((a + b : Nat) : Int)) / 2) (decide (isq (A * 2 ^ (a + b)) * isq (A * 2 ^ (a + b)) ≠ A * 2 ^ (a + b))) mode b (by rw [c1]; exact h53)
  rw [c1, c2] at h1
  have e1 : (ea - ((a + b : Nat) : Int)) / 2 + (b : Int) = E := by omega
  rw [e1] at h1
  rw [h1]
  unfold rootV
  dsimp only
  rw [if_neg (by omega), if_neg (by omega), Int.natAbs_natCast]
  obtain ⟨k1, k2⟩ := rootK_ok (A := A) (e := ea)
  refine fla_root_any (by omega) k2 ?_ (big_53 (root_big hA k1))
  have h2 : r ≤ isq (A * 2 ^ (a + b)) := by rw [← c1]; exact Nat.div_le_self _ _
  exact Nat.le_trans h53 h2
theorem rootG_of {A j N k d r : Nat} {e ea E : Int} {t : Bool} (hN : N = A / 2 ^ j) (ht : t = decide (A % 2 ^ j ≠ 0)) (hk : t = true → k = 0) (he : e = ea + j) (hE : e - k + d = 2 * E) (hr : r = isq (N * 2 ^ k / 2 ^ d)) (r2 : 4611686018427387904 ≤ r) (r3 : r < 9223372036854775808) :
    RootG A ea r E (t || decide (N * 2 ^ k % 2 ^ d ≠ 0) || decide (r * r ≠ N * 2 ^ k / 2 ^ d)) := by
  have hj : 0 < 2 ^ j := Nat.pow_pos (by omega)
  have hd : 0 < 2 ^ d := Nat.pow_pos (by omega)
  have key : A * 2 ^ k / 2 ^ (j + d) = N * 2 ^ k / 2 ^ d ∧ decide (A * 2 ^ k % 2 ^ (j + d) ≠ 0) = (t || decide (N * 2 ^ k % 2 ^ d ≠ 0)) := by
    cases htt : t with
    | false =>
      rw [htt] at ht
      have h0 : A % 2 ^ j = 0 := by simpa using of_decide_eq_false ht.symm
      have hA : A = N * 2 ^ j := by
        have := Nat.div_add_mod A (2 ^ j)
        rw [h0, ← hN, Nat.add_zero, Nat.mul_comm] at this
        exact this.symm
      have e1 : A * 2 ^ k = N * 2 ^ k * 2 ^ j := by rw [hA]; exact Nat.mul_right_comm _ _ _
      have e2 : 2 ^ (j + d) = 2 ^ d * 2 ^ j := by rw [Nat.add_comm, Nat.pow_add]
      rw [e1, e2, Nat.mul_div_mul_right _ _ hj, Nat.mul_mod_mul_right, Bool.false_or]
      refine ⟨rfl, decide_eq_decide.2 ⟨fun h1 h2 => h1 (by rw [h2, Nat.zero_mul]), fun h1 h2 => ?_⟩⟩
      rcases Nat.mul_eq_zero.1 h2 with h3 | h3
      · exact h1 h3
      · omega
    | true =>
      rw [hk htt, Nat.pow_zero, Nat.mul_one, Nat.mul_one, hN, Nat.div_div_eq_div_mul, ← Nat.pow_add, Bool.true_or]
      refine ⟨rfl, decide_eq_true ?_⟩
      have h0 : A % 2 ^ j ≠ 0 := of_decide_eq_true (by rw [← ht, htt])
      intro h1
      apply h0
      rw [Nat.pow_add, Nat.mod_mul] at h1
      omega
  exact ⟨r2, r3, k, j + d, by omega, by rw [key.1]; exact hr, by rw [key.1, key.2]⟩
theorem isq_top {M d : Nat} (hd : d = 2 ∨ d = 3) (h0 : 2 ^ 127 ≤ M) (h1 : M < 2 ^ 128) : 2 ^ 124 ≤ M / 2 ^ d ∧ M / 2 ^ d < 2 ^ 126 ∧ 4611686018427387904 ≤ isq (M / 2 ^ d) ∧ isq (M / 2 ^ d) < 9223372036854775808 := by
  have a : 2 ^ 124 ≤ M / 2 ^ d ∧ M / 2 ^ d < 2 ^ 126 := by rcases hd with rfl | rfl <;> omega
  refine ⟨a.1, a.2, isq_le.2 (by omega), ?_⟩
  rcases Nat.lt_or_ge (isq (M / 2 ^ d)) 9223372036854775808 with h | h
  · exact h
  · have := isq_le.1 h
    omega
end Go.Proofs.YtolghagbpnjpgaaGreatDoor
