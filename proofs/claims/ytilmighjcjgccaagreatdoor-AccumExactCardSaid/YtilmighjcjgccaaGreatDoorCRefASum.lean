/- What the reference's Sum of floats does. -/
import Derived.Test.YtilmighjcjgccaaGreatDoorCAFold
import Derived.Test.YtilmighjcjgccaaGreatDoorCRefOf
import Derived.Test.YtilmighjcjgccaaGreatDoorIa
namespace Go.Proofs.YtilmighjcjgccaaGreatDoor
open Go Go.RowKit

set_option maxRecDepth 100000 in
set_option maxHeartbeats 8000000 in
theorem refASum_any (ao : Option Addr) (n cap : Nat) (l : List Nat) (w : World) (h : Fs w ao n cap l) (hT : Table w) (hn : n ≤ 1000000) :
    Calls Tryz.prog 72 #[.slice ao n cap] w fun e w' => ∃ v, e = .returned v ∧ Dn w' v (foldS (l.map fdy)) ∧ Ext w w' := by
  have HL := Lib.hid h.len
  have HH := Lib.hid h
  have HT := Lib.hid hT
  obtain ⟨D, hD⟩ : ∃ D, l.map fdy = D := ⟨_, rfl⟩
  have HDL := Lib.hid (show D.length = n by rw [← hD, List.length_map]; exact h.len)
  have HDJ := Lib.hid (show ∀ j, j < n → D.getD j none = fdy (l.getD j 0) from fun j hj => by rw [← hD]; exact map_getD (by rw [HL.out]; exact hj))
  rw [hD]
  clear h hT hD
  go_enter Tryz.func72, Tryz.ntmps72
  go_upto_region 2 with fail
  obtain ⟨W, hW, hB, hbx, hgx, hz⟩ := boxes_two_d w false false none 0 0 0 false false none 0 0 0
  rw [← hW]
  clear hW
  have hs0 : Dn W (.agg #[.bool false, .bool false, .slice none 0 0, .int .i64 0]) (foldS (D.take 0)) := by rw [List.take_zero]; exact dn_zero W
  generalize hBe : w.heap.size = B at *
  have HBe := Lib.hid hBe
  have HEX := Lib.hid (show ∀ wx, Below B w wx → Ext w wx from fun wx h => by rw [← hBe] at h; exact h)
  clear hBe
  go_wp2
  go_loopw [4] (fun ix wr => ∃ (j : Nat) (sb sn : Bool) (so : Option Addr) (sk sc : Nat) (se : Int), j ≤ n ∧ ix = .int .i64 j ∧ Dn wr (.agg #[.bool sb, .bool sn, .slice so sk sc, .int .i64 se]) (foldS (D.take j)) ∧ DBox wr (B + 1) sb sn so sk sc se ∧ DBox wr B false false none 0 0 0 ∧ Below B w wr)
    (fun ix _ => n - (intOf ix).toNat)
  case atStart => exact ⟨0, _, _, _, _, _, _, Nat.zero_le _, rfl, hs0, hgx, hbx, hB⟩
  case round =>
    obtain ⟨j, sb, sn, so, sk, sc, se, hj, rfl, hs, hgr, hbr, hE⟩ := hrel
    have hgl := hgr.lt
    have hbl := hbr.lt
    by_cases hlt : j < n
    · have h := HH.out.below (HEX.out _ hE)
      obtain ⟨b, off, rfl, hc⟩ := h.cells (by omega)
      have hcj := hc j hlt
      have hfl := h.getD_lt j
      have hdj := HDJ.out j hlt
      have hsn := foldS_snoc (D := D) (j := j) (by rw [HDL.out]; exact hlt)
      obtain ⟨p, hp⟩ : ∃ p, l.getD j 0 = p := ⟨_, rfl⟩
      rw [hp] at hcj hfl hdj
      rw [hdj] at hsn
      have HSN := Lib.hid hsn
      clear hc h hp hdj hsn
      obtain ⟨V, hVe⟩ : ∃ V, V = wr := ⟨_, rfl⟩
      subst hVe
      have hex : Ext V V.drew := (Below.refl _ _).drew
      have HTV := Lib.hid (show ∀ wx, Ext V wx → Table wx from fun wx hx => HT.out.below (Ext.trans (HEX.out _ hE) hx))
      have C1 := Lib.hid (fun wx (hx : Ext V wx) => refOf_any p hfl wx (HTV.out _ hx))
      have HC := Lib.hid (show ∀ wx, Ext V wx → wx.cell? ⟨B + 1, 0, none⟩ = some (.bool sb) ∧ wx.cell? ⟨B + 1, 1, none⟩ = some (.bool sn) ∧ wx.cell? ⟨B + 1, 2, none⟩ = some (.slice so sk sc) ∧ wx.cell? ⟨B + 1, 3, none⟩ = some (.int .i64 se) from fun wx h => ⟨(hgr.ext h).c0, (hgr.ext h).c1, (hgr.ext h).c2, (hgr.ext h).c3⟩)
      obtain ⟨k0, k1, k2, k3⟩ := HC.out V (Ext.refl _)
      go_upto_region 5 with fail
      go_region_with (first
        | (go_at_call 55; (with_reducible refine (C1.out _ (by assumption)).mono ?_); rintro e w1 ⟨v1, rfl, hv1, hw1⟩; have ex1 : Ext V w1 := Ext.trans hex hw1; obtain ⟨k0, k1, k2, k3⟩ := HC.out w1 ex1)
        | (go_at_call 26; refine (ref_dadd_any _ _ _ _ _ (by exact (hs.ext ex1).dl) (by exact hv1.dl) (by exact HTV.out _ ex1)).mono ?_; rintro e w2 ⟨v2, rfl, hv2, hw2⟩; have ex2 : Ext V w2 := Ext.trans ex1 hw2; obtain ⟨rb, rn, ro, rk, rc, re, rfl⟩ := hv2.parts; have gx := hgr.ext ex2; have q0 := gx.c0; have q1 := gx.c1; have q2 := gx.c2; have q3 := gx.c3; have f0 := gx.f 0; have f1 := gx.f 1; have f2 := gx.f 2; have f3 := gx.f 3))
      all_goals
        have ho := only_set4 w2 (B + 1) (.bool rb) (.bool rn) (.slice ro rk rc) (.int .i64 re)
        have R1 := hv2.only_dbox gx ho
        rw [← HSN.out] at R1
        have R2 := gx.stored rb rn ro rk rc re
        have R3 := (hbr.ext ex2).only ho (by omega)
        have R4 := (hE.trans (ex2.mono (by omega))).trans (ho.below (B := B) (by omega))
        have R := Lib.hid (And.intro R1 (And.intro R2 (And.intro R3 R4)))
        clear R1 R2 R3 R4
        go_wp2
        go_roundw
      all_goals
        first
          | (simp [intOf] <;> omega)
          | exact ⟨j + 1, _, _, _, _, _, _, by omega, by go_num, R.out.1, R.out.2.1, R.out.2.2.1, R.out.2.2.2⟩
    · obtain rfl : j = n := by omega
      have ht : D.take j = D := List.take_of_length_le (by rw [HDL.out]; exact Nat.le_refl _)
      rw [ht] at hs
      have k0 := hgr.c0
      have k1 := hgr.c1
      have k2 := hgr.c2
      have k3 := hgr.c3
      have q0 := hbr.c0
      have q1 := hbr.c1
      have q2 := hbr.c2
      have q3 := hbr.c3
      have f0 := hbr.f 0
      have f1 := hbr.f 1
      have f2 := hbr.f 2
      have f3 := hbr.f 3
      have hres := dn_stored hbr hs w hE (Nat.le_refl B)
      have z3 := hbr.stored sb sn so sk sc se
      have z0 := z3.c0
      have z1 := z3.c1
      have z2 := z3.c2
      have z4 := z3.c3
      have HRES := Lib.hid hres; clear hres z3
      go_wp2
      refine bodyPost_ret (v := .agg #[.bool sb, .bool sn, .slice so sk sc, .int .i64 se]) (by simp [results, Tryz.results72, go_sem, z0, z1, z2, z4]) rfl ⟨_, rfl, ?_, ?_⟩
      · exact HRES.out.1
      · show Below _ _ _; rw [HBe.out]; exact HRES.out.2
end Go.Proofs.YtilmighjcjgccaaGreatDoor
