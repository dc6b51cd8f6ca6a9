import Derived.Test.YtolghagbpnjpgaaGreatDoorANormU29
import Derived.Test.YtolghagbpnjpgaaGreatDoorANormU39
import Derived.Test.YtolghagbpnjpgaaGreatDoorANormU33
import Derived.Test.YtolghagbpnjpgaaGreatDoorANormU37
import Derived.Test.YtolghagbpnjpgaaGreatDoorANormU41
import Derived.Test.YtolghagbpnjpgaaGreatDoorANormU46
import Derived.Test.YtolghagbpnjpgaaGreatDoorANormU38
namespace Go.Proofs.YtolghagbpnjpgaaGreatDoor
open Go Go.RowKit

set_option maxRecDepth 100000 in
set_option maxHeartbeats 8000000 in
theorem refANormOne_any (ao : Option Addr) (n cap : Nat) (l : List Nat) (w : World) (h : Fs w ao n cap l) (hT : Table w) (hn : n ≤ 1000000) :
    Calls Tryz.prog 53 #[.slice ao n cap] w fun e w' => ∃ v, e = .returned v ∧ Dn w' v (foldS ((l.map fabsF).map fdy)) ∧ Ext w w' := by
  have HL := Lib.hid h.len
  have HH := Lib.hid h
  have HT := Lib.hid hT
  obtain ⟨D, hD⟩ : ∃ D, (l.map fabsF).map fdy = D := ⟨_, rfl⟩
  have HDL := Lib.hid (show D.length = n by rw [← hD, List.length_map, List.length_map]; exact h.len)
  have HDJ := Lib.hid (show ∀ j, j < n → D.getD j none = dabs (fdy (l.getD j 0)) from fun j hj => by rw [← hD, map_abs]; exact map_getD (f := fun f => dabs (fdy f)) (by rw [HL.out]; exact hj))
  rw [hD]
  clear h hT hD
  go_enter Tryz.func53, Tryz.ntmps53
  go_upto_region 2 with fail
  obtain ⟨W, hW, hB, hbx, hgx, hz⟩ := boxes_two_d w false false none 0 0 0 false false none 0 0 0
  rw [← hW]
  clear hW
  have hs0 : Dn W (.agg #[.bool false, .bool false, .slice none 0 0, .int .i64 0]) (foldS (D.take 0)) := by rw [List.take_zero]; exact dn_zero W
  generalize hBe : w.heap.size = B at *
  have HBe := Lib.hid hBe
  have HEX := Lib.hid (show ∀ wx, Below B w wx → Ext w wx from fun wx h => by rw [← hBe] at h; exact h)
  clear hBe
  go_wp2
  go_loopw [4] (fun ix wr => ∃ (j : Nat) (sb sn : Bool) (so : Option Addr) (sk sc : Nat) (se : Int), j ≤ n ∧ ix = .int .i64 j ∧ Dn wr (.agg #[.bool sb, .bool sn, .slice so sk sc, .int .i64 se]) (foldS (D.take j)) ∧ DBox wr (B + 1) sb sn so sk sc se ∧ DBox wr B false false none 0 0 0 ∧ Below B w wr)
    (fun ix _ => n - (intOf ix).toNat)
  case atStart => exact ⟨0, _, _, _, _, _, _, Nat.zero_le _, rfl, hs0, hgx, hbx, hB⟩
  case round =>
    obtain ⟨j, sb, sn, so, sk, sc, se, hj, rfl, hs, hgr, hbr, hE⟩ := hrel
    have hgl := hgr.lt
    have hbl := hbr.lt
    by_cases hlt : j < n
    · have h := HH.out.below (HEX.out _ hE)
      obtain ⟨b, off, rfl, hc⟩ := h.cells (by omega)
      have hcj := hc j hlt
      have hfl := h.getD_lt j
      have hdj := HDJ.out j hlt
      have hsn := foldS_snoc (D := D) (j := j) (by rw [HDL.out]; exact hlt)
      obtain ⟨p, hp⟩ : ∃ p, l.getD j 0 = p := ⟨_, rfl⟩
      rw [hp] at hcj hfl hdj
      rw [hdj] at hsn
      have HSN := Lib.hid hsn
      clear hc h hp hdj hsn
      obtain ⟨V, hVe⟩ : ∃ V, V = wr := ⟨_, rfl⟩
      subst hVe
      have hex : Ext V V.drew := (Below.refl _ _).drew
      have HTV := Lib.hid (show ∀ wx, Ext V wx → Table wx from fun wx hx => HT.out.below (Ext.trans (HEX.out _ hE) hx))
      have C1 := Lib.hid (fun wx (hx : Ext V wx) => refOf_any p hfl wx (HTV.out _ hx))
      have HC := Lib.hid (show ∀ wx, Ext V wx → wx.cell? ⟨B + 1, 0, none⟩ = some (.bool sb) ∧ wx.cell? ⟨B + 1, 1, none⟩ = some (.bool sn) ∧ wx.cell? ⟨B + 1, 2, none⟩ = some (.slice so sk sc) ∧ wx.cell? ⟨B + 1, 3, none⟩ = some (.int .i64 se) from fun wx h => ⟨(hgr.ext h).c0, (hgr.ext h).c1, (hgr.ext h).c2, (hgr.ext h).c3⟩)
      obtain ⟨k0, k1, k2, k3⟩ := HC.out V (Ext.refl _)
      go_upto_region 5 with fail
      go_region_with (first
        | (go_at_call 60; (with_reducible refine (C1.out _ (by assumption)).mono ?_); rintro e w1 ⟨v1, rfl, hv1, hw1⟩; have ex1 : Ext V w1 := Ext.trans hex hw1; obtain ⟨k0, k1, k2, k3⟩ := HC.out w1 ex1)
        | (go_at_call 125; refine (ref_dabs_any _ _ _ (by exact hv1.dl) (by exact HTV.out _ ex1)).mono ?_; rintro e w1' ⟨v1', rfl, hv1', hw1'⟩; have ex1' : Ext V w1' := Ext.trans ex1 hw1'; obtain ⟨k0, k1, k2, k3⟩ := HC.out w1' ex1')
        | (go_at_call 59; refine (ref_dadd_any _ _ _ _ _ (by exact (hs.ext ex1').dl) (by exact hv1'.dl) (by exact HTV.out _ ex1')).mono ?_; rintro e w2 ⟨v2, rfl, hv2, hw2⟩; have ex2 : Ext V w2 := Ext.trans ex1' hw2; obtain ⟨rb, rn, ro, rk, rc, re, rfl⟩ := hv2.parts; have gx := hgr.ext ex2; have q0 := gx.c0; have q1 := gx.c1; have q2 := gx.c2; have q3 := gx.c3; have f0 := gx.f 0; have f1 := gx.f 1; have f2 := gx.f 2; have f3 := gx.f 3))
      all_goals
        have ho := only_set4 w2 (B + 1) (.bool rb) (.bool rn) (.slice ro rk rc) (.int .i64 re)
        have R1 := hv2.only_dbox gx ho
        rw [← HSN.out] at R1
        have R2 := gx.stored rb rn ro rk rc re
        have R3 := (hbr.ext ex2).only ho (by omega)
        have R4 := (hE.trans (ex2.mono (by omega))).trans (ho.below (B := B) (by omega))
        have R := Lib.hid (And.intro R1 (And.intro R2 (And.intro R3 R4)))
        clear R1 R2 R3 R4
        go_wp2
        go_roundw
      all_goals
        first
          | (simp [intOf] <;> omega)
          | exact ⟨j + 1, _, _, _, _, _, _, by omega, by go_num, R.out.1, R.out.2.1, R.out.2.2.1, R.out.2.2.2⟩
    · obtain rfl : j = n := by omega
      have ht : D.take j = D := List.take_of_length_le (by rw [HDL.out]; exact Nat.le_refl _)
      rw [ht] at hs
      have k0 := hgr.c0
      have k1 := hgr.c1
      have k2 := hgr.c2
      have k3 := hgr.c3
      have q0 := hbr.c0
      have q1 := hbr.c1
      have q2 := hbr.c2
      have q3 := hbr.c3
      have f0 := hbr.f 0
      have f1 := hbr.f 1
      have f2 := hbr.f 2
      have f3 := hbr.f 3
      have hres := dn_stored hbr hs w hE (Nat.le_refl B)
      have z3 := hbr.stored sb sn so sk sc se
      have z0 := z3.c0
      have z1 := z3.c1
      have z2 := z3.c2
      have z4 := z3.c3
      have HRES := Lib.hid hres; clear hres z3
      go_wp2
      refine bodyPost_ret (v := .agg #[.bool sb, .bool sn, .slice so sk sc, .int .i64 se]) (by simp [results, Tryz.results53, go_sem, z0, z1, z2, z4]) rfl ⟨_, rfl, ?_, ?_⟩
      · exact HRES.out.1
      · show Below _ _ _; rw [HBe.out]; exact HRES.out.2

set_option maxRecDepth 100000 in
set_option maxHeartbeats 8000000 in
theorem refANormInf_no (ao : Option Addr) (n cap : Nat) (l : List Nat) (w : World) (h : Fs w ao n cap l) (hn : n ≤ 1000000) (hf : l.all finB = false) :
    Calls Tryz.prog 51 #[.slice ao n cap] w fun e w' => ∃ v, e = .returned v ∧ Dn w' v (fdy (gmax l)) ∧ Ext w w' := by
  rw [fdy_gmax_bad hf]
  have CF := Lib.hid (fun W (hE : Ext w W) => refFinite_any ao n cap l W (h.below hE) hn false hf)
  clear h hf
  go_enter Tryz.func51, Tryz.ntmps51
  go_upto_region 1 with fail
  obtain ⟨W, hW, hB, hbx, hz⟩ := dbox_new w false false none 0 0 0
  rw [← hW]
  clear hW
  have hE0 : Ext w W := hB
  generalize hBe : w.heap.size = B at *
  have HBe := Lib.hid hBe
  clear hBe
  go_wp2_with fail
  refine (CF.out _ hE0).mono ?_
  rintro e w1 ⟨rfl, rfl⟩
  go_wp2_with fail
  refine (refBad_any _).mono ?_
  rintro e w2 ⟨rfl, hw2⟩
  have hbr := hbx.below hw2
  obtain ⟨hE2, hE2'⟩ := bnext hB (by omega) hw2
  have q0 := hbr.c0
  have q1 := hbr.c1
  have q2 := hbr.c2
  have q3 := hbr.c3
  have f0 := hbr.f 0
  have f1 := hbr.f 1
  have f2 := hbr.f 2
  have f3 := hbr.f 3
  have hres := dn_stored hbr (dn_bad w2) w hE2 (Nat.le_refl B)
  have z3 := hbr.stored true false none 0 0 0
  have z0 := z3.c0
  have z1 := z3.c1
  have z2 := z3.c2
  have z4 := z3.c3
  have HRES := Lib.hid hres; clear hres z3
  go_wp2
  refine bodyPost_ret (v := .agg #[.bool true, .bool false, .slice none 0 0, .int .i64 0]) (by simp [results, Tryz.results51, go_sem, z0, z1, z2, z4]) rfl ⟨_, rfl, ?_, ?_⟩
  · exact HRES.out.1
  · show Below _ _ _; rw [HBe.out]; exact HRES.out.2

set_option maxRecDepth 100000 in
set_option maxHeartbeats 8000000 in
theorem refANormInf_yes (ao : Option Addr) (n cap : Nat) (l : List Nat) (w : World) (h : Fs w ao n cap l) (hT : Table w) (hn : n ≤ 1000000) (hf : l.all finB = true) :
    Calls Tryz.prog 51 #[.slice ao n cap] w fun e w' => ∃ v, e = .returned v ∧ Dn w' v (fdy (gmax l)) ∧ Ext w w' := by
  have HL := Lib.hid h.len
  have HH := Lib.hid h
  have HT := Lib.hid hT
  have HF := Lib.hid hf
  have CF := Lib.hid (fun W (hE : Ext w W) => refFinite_any ao n cap l W (h.below hE) hn true hf)
  clear h hT hf
  go_enter Tryz.func51, Tryz.ntmps51
  go_upto_region 1 with fail
  obtain ⟨W, hW, hB, hbx, hz⟩ := dbox_new w false false none 0 0 0
  rw [← hW]
  clear hW
  have hE0 : Ext w W := hB
  generalize hBe : w.heap.size = B at *
  have HBe := Lib.hid hBe
  have HEX := Lib.hid (show ∀ wx, Below B w wx → Ext w wx from fun wx h => by rw [← hBe] at h; exact h)
  clear hBe
  go_wp2_with fail
  refine (CF.out _ hE0).mono ?_
  rintro e w1 ⟨rfl, rfl⟩
  go_upto_region 4 with fail
  obtain ⟨W2, hW, hB2, hgx, hz2⟩ := dbox_new W false false none 0 0 0
  rw [← hW]
  clear hW
  have hbx := hbx.below hB2
  obtain ⟨hE, hE'⟩ := bnext hB (by omega) hB2
  have hGB : B < W.heap.size := by omega
  generalize W.heap.size = G at *
  have hs0 : Dn W2 (.agg #[.bool false, .bool false, .slice none 0 0, .int .i64 0]) (fdy (gmax (l.take 0))) := by rw [List.take_zero, gmax_nil, fdy_zero (by decide)]; exact dn_zero W2
  clear hB hB2 hz hz2 hE0
  go_wp2
  go_loopw [4] (fun ix wr => ∃ (j : Nat) (yb yn : Bool) (yo : Option Addr) (yk yc : Nat) (ye : Int), j ≤ n ∧ ix = .int .i64 j ∧ Dn wr (.agg #[.bool yb, .bool yn, .slice yo yk yc, .int .i64 ye]) (fdy (gmax (l.take j))) ∧ DBox wr G yb yn yo yk yc ye ∧ DBox wr B false false none 0 0 0 ∧ Below B w wr)
    (fun ix _ => n - (intOf ix).toNat)
  case atStart => exact ⟨0, _, _, _, _, _, _, Nat.zero_le _, rfl, hs0, hgx, hbx, hE⟩
  case round =>
    obtain ⟨j, yb, yn, yo, yk, yc, ye, hj, rfl, hs, hgr, hbr, hE⟩ := hrel
    have hgl := hgr.lt
    have hbl := hbr.lt
    by_cases hlt : j < n
    · have h := HH.out.below (HEX.out _ hE)
      obtain ⟨b, off, rfl, hc⟩ := h.cells (by omega)
      have hcj := hc j hlt
      have hfl := h.getD_lt j
      have hjl : j < l.length := by rw [HL.out]; exact hlt
      have hsn := gmax_snoc (l := l) (j := j) hjl
      have fG := all_take HF.out j
      have fx : finB (l.getD j 0) = true := List.all_eq_true.1 HF.out _ (by simp [List.getD, hjl])
      obtain ⟨p, hp⟩ : ∃ p, l.getD j 0 = p := ⟨_, rfl⟩
      rw [hp] at hcj hfl hsn fx
      have fA : finB (fabsF p) = true := (fabs_facts fx).2.1
      have hcmp := norm_cmp (absF_lt63 p) (gmax_lt (l.take j)) fA fG
      have hab := fdy_abs p
      obtain ⟨g, hg⟩ : ∃ g, gmax (l.take j) = g := ⟨_, rfl⟩
      obtain ⟨g2, hg2⟩ : ∃ g, gmax (l.take (j + 1)) = g := ⟨_, rfl⟩
      obtain ⟨a, ha⟩ : ∃ a, fabsF p = a := ⟨_, rfl⟩
      rw [hg, ha] at hcmp
      rw [hg] at fG hs
      rw [ha] at fA hab
      rw [hg2, hg, ha] at hsn
      have HG2 := Lib.hid hg2
      have HCMP := Lib.hid hcmp
      have HAB := Lib.hid hab
      have hnA := fdy_some fA
      have hnG := fdy_some fG
      have HN := Lib.hid (And.intro hnA hnG)
      have HSN := Lib.hid hsn
      clear hc h hp fx fA fG hjl hg hg2 ha hcmp hab hnA hnG hsn
      obtain ⟨V, hVe⟩ : ∃ V, V = wr := ⟨_, rfl⟩
      subst hVe
      have HTV := Lib.hid (show ∀ wx, Ext V wx → Table wx from fun wx hx => HT.out.below (Ext.trans (HEX.out _ hE) hx))
      have C1 := Lib.hid (refOf_any p hfl V (HTV.out _ (Ext.refl _)))
      go_wp2_with fail
      refine C1.out.mono ?_
      rintro e w1 ⟨v1, rfl, hv1, hw1⟩
      go_wp2_with fail
      refine (ref_dabs_any _ _ _ hv1.dl (HTV.out _ hw1)).mono ?_
      rintro e w2 ⟨v2, rfl, hv2, hw2⟩
      rw [← HAB.out] at hv2
      obtain ⟨rb, rn, ro, rk, rc, re, rfl⟩ := hv2.parts
      have ex2 : Ext V w2 := Ext.trans hw1 hw2
      clear hv1 hw1 hw2
      go_upto_region 8 with fail
      obtain ⟨V2, hVe, hB3, hdx, hz3⟩ := dbox_new w2 rb rn ro rk rc re
      rw [← hVe]
      clear hVe
      have ex3 : Ext V V2 := Ext.trans ex2 hB3
      have hv2 := hv2.ext hB3
      have hdl : G < w2.heap.size := Nat.lt_of_lt_of_le hgl (Below.size ex2)
      generalize w2.heap.size = P at *
      have hgr2 := hgr.ext ex3
      have hs2 := hs.ext ex3
      have k0 := hdx.c0
      have k1 := hdx.c1
      have k2 := hdx.c2
      have k3 := hdx.c3
      have m0 := hgr2.c0
      have m1 := hgr2.c1
      have m2 := hgr2.c2
      have m3 := hgr2.c3
      go_wp2_with fail
      refine (refDCmp_any _ _ _ _ _ hv2.dl hs2.dl (HTV.out _ ex3)).mono ?_
      rintro e w4 ⟨hout, hw4⟩
      have ex4 : Ext V w4 := Ext.trans ex3 hw4
      have hdx := hdx.ext hw4
      have hgr4 := hgr.ext ex4
      have hbr4 := hbr.ext ex4
      have hv4 := hv2.ext hw4
      have hs4 := hs.ext ex4
      have hE4 : Below B w w4 := hE.trans (Below.mono ex4 (by omega))
      clear k0 k1 k2 k3 m0 m1 m2 m3 hw4 hv2 hs2 hgr2 hB3 ex2 ex3 hs hgr hbr hz3
      have k0 := hdx.c0
      have k1 := hdx.c1
      have k2 := hdx.c2
      have k3 := hdx.c3
      have m0 := hgr4.c0
      have m1 := hgr4.c1
      have m2 := hgr4.c2
      have m3 := hgr4.c3
      have n0 := hgr4.f 0
      have n1 := hgr4.f 1
      have n2 := hgr4.f 2
      have n3 := hgr4.f 3
      rcases hout with ⟨hbad, -⟩ | ⟨-, -, rfl⟩
      · rcases hbad with hbad | hbad
        · exact absurd hbad HN.out.1
        · exact absurd hbad HN.out.2
      · obtain ⟨c, hce⟩ : ∃ c, sgn3 (sc (fdy a)) (sc (fdy g)) = c := ⟨_, rfl⟩
        have hcm := HCMP.out
        rw [hce] at hcm ⊢
        clear hce
        by_cases hlt2 : g < a
        · have hc0 : c > 0 := hcm.2 hlt2
          have ho := only_set4 w4 G (.bool rb) (.bool rn) (.slice ro rk rc) (.int .i64 re)
          have R1 := hv4.only_dbox hgr4 ho
          have hga : g2 = a := by rw [HSN.out]; omega
          rw [← hga, ← HG2.out] at R1
          have R2 := hgr4.stored rb rn ro rk rc re
          have R3 := hbr4.only ho (by omega)
          have R4 := hE4.trans (ho.below (B := B) (by omega))
          have R := Lib.hid (And.intro R1 (And.intro R2 (And.intro R3 R4)))
          clear R1 R2 R3 R4 hcm hga
          go_wp2
          go_roundw
          case rel => exact ⟨j + 1, _, _, _, _, _, _, by omega, by go_num, R.out.1, R.out.2.1, R.out.2.2.1, R.out.2.2.2⟩
          case measure => simp [intOf] <;> omega
        · have hc0 : ¬ c > 0 := fun h => hlt2 (hcm.1 h)
          have hga : g2 = g := by rw [HSN.out]; omega
          rw [← hga, ← HG2.out] at hs4
          have R := Lib.hid (And.intro hs4 (And.intro hgr4 (And.intro hbr4 hE4)))
          clear hcm hga
          go_wp2
          go_roundw
          case rel => exact ⟨j + 1, _, _, _, _, _, _, by omega, by go_num, R.out.1, R.out.2.1, R.out.2.2.1, R.out.2.2.2⟩
          case measure => simp [intOf] <;> omega
    · obtain rfl : j = n := by omega
      have ht : l.take j = l := List.take_of_length_le (by rw [HL.out]; exact Nat.le_refl _)
      rw [ht] at hs
      have k0 := hgr.c0
      have k1 := hgr.c1
      have k2 := hgr.c2
      have k3 := hgr.c3
      have q0 := hbr.c0
      have q1 := hbr.c1
      have q2 := hbr.c2
      have q3 := hbr.c3
      have f0 := hbr.f 0
      have f1 := hbr.f 1
      have f2 := hbr.f 2
      have f3 := hbr.f 3
      have hres := dn_stored hbr hs w hE (Nat.le_refl B)
      have z3 := hbr.stored yb yn yo yk yc ye
      have z0 := z3.c0
      have z1 := z3.c1
      have z2 := z3.c2
      have z4 := z3.c3
      have HRES := Lib.hid hres; clear hres z3
      go_wp2
      refine bodyPost_ret (v := .agg #[.bool yb, .bool yn, .slice yo yk yc, .int .i64 ye]) (by simp [results, Tryz.results51, go_sem, z0, z1, z2, z4]) rfl ⟨_, rfl, ?_, ?_⟩
      · exact HRES.out.1
      · show Below _ _ _; rw [HBe.out]; exact HRES.out.2

theorem refANormInf_any (ao : Option Addr) (n cap : Nat) (l : List Nat) (w : World) (h : Fs w ao n cap l) (hT : Table w) (hn : n ≤ 1000000) :
    Calls Tryz.prog 51 #[.slice ao n cap] w fun e w' => ∃ v, e = .returned v ∧ Dn w' v (fdy (gmax l)) ∧ Ext w w' := by
  cases hf : l.all finB with
  | false => exact refANormInf_no ao n cap l w h hn hf
  | true => exact refANormInf_yes ao n cap l w h hT hn hf

set_option maxRecDepth 100000 in
set_option maxHeartbeats 4000000 in
theorem refANormTwo_any (ao : Option Addr) (n cap : Nat) (l : List Nat) (mode : Int) (w : World) (h : Fs w ao n cap l) (hT : Table w) (hn : n ≤ 1000000) :
    Calls Tryz.prog 55 #[.slice ao n cap, .int .i64 mode] w fun e w' => e = .returned (.int .u64 ((norm2 l mode : Nat) : Int)) ∧ Ext w w' := by
  obtain ⟨R, hR⟩ : ∃ R, norm2 l mode = R := ⟨_, rfl⟩
  rw [hR]
  obtain ⟨D, E, hD⟩ : ∃ D E, dotR l l = (D, E) := ⟨_, _, rfl⟩
  have hE4 := dot_err l
  unfold norm2 at hR
  rw [hD] at hR hE4
  simp only [] at hR hE4
  have CD := Lib.hid (refADot_any ao ao n n cap cap l l w h h hT hn D E hD)
  have HT := Lib.hid hT
  clear hD hT
  go_enter Tryz.func55, Tryz.ntmps55
  go_wp2_with fail
  refine CD.out.mono ?_
  rintro e w1 ⟨v, rfl, hv, hw1⟩
  obtain ⟨rb, rn, ro, rk, rc, re, rfl⟩ := hv.parts
  go_upto_region 2 with fail
  obtain ⟨W, hW, hB, hbx, hz⟩ := dbox_new w1 rb rn ro rk rc re
  rw [← hW]
  clear hW
  have hv := hv.ext hB
  have hE1 : Ext w W := Ext.trans hw1 hB
  generalize w1.heap.size = B at *
  have k0 := hbx.c0
  have k1 := hbx.c1
  have k2 := hbx.c2
  have k3 := hbx.c3
  rcases hE4 with rfl | rfl
  · rw [if_pos rfl] at hR
    have CR := refRootF_any _ D mode W hv.dl (HT.out.below hE1)
    rw [hR] at CR
    have CR := Lib.hid CR
    have HE1 := Lib.hid hE1
    clear hR hv hB hw1 hE1
    go_wp2_with fail
    refine CR.out.mono ?_
    rintro e w2 ⟨rfl, hw2⟩
    have HF := Lib.hid (Ext.trans HE1.out hw2)
    go_wp2
    go_ret
    exact ⟨rfl, HF.out⟩
  · rw [if_neg (by omega)] at hR
    subst hR
    have HE1 := Lib.hid hE1
    clear hv hB hw1 hE1
    go_wp2
    go_ret
    exact ⟨rfl, HE1.out⟩
end Go.Proofs.YtolghagbpnjpgaaGreatDoor

namespace Go.Proofs.YtolghagbpnjpgaaGreatDoor
open Go Go.RowKit

set_option maxRecDepth 100000 in
set_option maxHeartbeats 16000000 in
theorem anormL_yes (ao : Option Addr) (n cap : Nat) (l : List Nat) (mode : Int) (w : World) (hx : Fs w ao n cap l) (hT : Table w) (hT6 : Table64 w) (hn : n ≤ 10) :
    Calls Tryz.prog 6 #[.slice ao n cap, .int .i64 mode] w fun e w' => e = .returned (.bool true) ∧ Ext w w' := by
  have HTT := Lib.hid (fun W (hE : Ext w W) => hT.below hE)
  have HT6 := Lib.hid (fun W (hE : Ext w W) => hT6.below hE)
  have HX := Lib.hid (fun W (hE : Ext w W) => hx.below hE)
  have AW := Lib.hid (fun W (hE : Ext w W) => aawake_any W (HTT.out W hE) (HT6.out W hE))
  have HSUM := Lib.hid (show foldS ((l.map fabsF).map fdy) = dtotal ((l.map fabsF).map fdy) from fold_floats (by rw [List.length_map, hx.len]; omega))
  obtain ⟨R, hR⟩ : ∃ R : Int, ((norm2 l mode : Nat) : Int) = R := ⟨_, rfl⟩
  have C3 := Lib.hid (fun W (hE : Ext w W) => anormTwo_any ao n cap l mode W (HX.out W hE) (HTT.out W hE) (HT6.out W hE) (by omega))
  have D3 := Lib.hid (fun W (hE : Ext w W) => refANormTwo_any ao n cap l mode W (HX.out W hE) (HTT.out W hE) (by omega))
  rw [hR] at C3 D3
  have e1 : (R == R) = true := by simp
  have hnl : ¬ (n : Int) > 10 := by omega
  have C1 := Lib.hid (fun W (hE : Ext w W) => anormInf_any ao n cap l W (HX.out W hE) (HT6.out W hE) (by omega))
  have D1 := Lib.hid (fun W (hE : Ext w W) => refANormInf_any ao n cap l W (HX.out W hE) (HTT.out W hE) (by omega))
  have C2 := Lib.hid (fun W (hE : Ext w W) => anormOne_any ao n cap l W (HX.out W hE) (HTT.out W hE) (HT6.out W hE) (by omega))
  have D2 := Lib.hid (fun W (hE : Ext w W) => refANormOne_any ao n cap l W (HX.out W hE) (HTT.out W hE) (by omega))
  rw [HSUM.out] at D2
  clear hR hT hT6 hx
  go_enter Tryz.func6, Tryz.ntmps6
  have h0 : Ext w w := Ext.refl w
  go_wp2_with fail
  refine (C1.out _ h0).mono ?_
  rintro e w1 ⟨v1, rfl, hv1, hw1⟩
  have h1 := Ext.trans h0 hw1
  go_wp2_with fail
  refine (D1.out _ h1).mono ?_
  rintro e w2 ⟨v2, rfl, hv2, hw2⟩
  have h2 := Ext.trans h1 hw2
  have hv1 := hv1.ext hw2
  go_wp2_with fail
  refine (kitDyad_same _ _ _ _ hv1 hv2).mono ?_
  rintro e w3 ⟨rfl, hw3⟩
  have h3 := Ext.trans h2 hw3
  clear hv1 hv2 hw1 hw2 hw3
  go_wp2_with fail
  refine (C2.out _ h3).mono ?_
  rintro e w4 ⟨v4, rfl, hv4, hw4⟩
  have h4 := Ext.trans h3 hw4
  go_wp2_with fail
  refine (D2.out _ h4).mono ?_
  rintro e w5 ⟨v5, rfl, hv5, hw5⟩
  have h5 := Ext.trans h4 hw5
  have hv4 := hv4.ext hw5
  go_wp2_with fail
  refine (kitDyad_same _ _ _ _ hv4 hv5).mono ?_
  rintro e w6 ⟨rfl, hw6⟩
  have h6 := Ext.trans h5 hw6
  clear hv4 hv5 hw4 hw5 hw6
  go_wp2_with fail
  refine (C3.out _ h6).mono ?_
  rintro e w7 ⟨rfl, hw7⟩
  have h7 := Ext.trans h6 hw7
  go_wp2_with fail
  refine (D3.out _ h7).mono ?_
  rintro e w8 ⟨rfl, hw8⟩
  have h8 := Ext.trans h7 hw8
  go_wp2_with fail
  refine (AW.out _ h8).mono ?_
  rintro e w9 ⟨rfl, hw9⟩
  have HF := Lib.hid (Ext.trans h8 hw9)
  go_wp2
  go_ret
  exact ⟨rfl, HF.out⟩

set_option maxRecDepth 100000 in
set_option maxHeartbeats 4000000 in
theorem anormL_any (ao : Option Addr) (n cap : Nat) (mode : Int) (w : World) (hr0 : n ≤ 1000000 → ∃ l, Fs w ao n cap l) (hT : Table w) (hT6 : Table64 w) :
    Calls Tryz.prog 6 #[.slice ao n cap, .int .i64 mode] w fun e w' => e = .returned (.bool true) ∧ Ext w w' := by
  by_cases hn : n ≤ 10
  · obtain ⟨x, hx⟩ := hr0 (by omega)
    exact anormL_yes ao n cap x mode w hx hT hT6 hn
  · have AW := Lib.hid (aawake_any w hT hT6)
    clear hr0 hT hT6
    have h1 : (n : Int) > 10 := by omega
    go_enter Tryz.func6, Tryz.ntmps6
    go_wp2_with fail
    refine AW.out.mono ?_
    rintro e w9 ⟨rfl, h9⟩
    have HF := Lib.hid h9
    go_wp2
    go_ret
    exact ⟨rfl, HF.out⟩
end Go.Proofs.YtolghagbpnjpgaaGreatDoor
