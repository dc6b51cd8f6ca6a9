import Derived.Test.YtapcecjbmcoliaaGrLlU40
import Derived.Test.YtapcecjbmcoliaaGrLlU42
import Derived.Test.YtapcecjbmcoliaaGrLlU38
namespace Go.Proofs.Ytapcecjbmcoliaa
open Go Go.RowKit

set_option maxRecDepth 100000 in
set_option maxHeartbeats 8000000 in
theorem components_any (ao : Option Addr) (n cap : Nat) (a : Nat → Nat → Bool) (w : World) (h : Nss w ao n cap (adjM n a)) (hg : GOk a) (hn : n ≤ 200) :
    Calls Try.prog 21 #[.agg #[.slice ao n cap]] w fun e w' => ∃ v rs, e = .returned v ∧ RS w' w.heap.size v rs (comps n a n).2 ∧ Ext w w' := by
  obtain ⟨O, hrun, hblk⟩ := make_bools n (by omega)
  have HBLK := Lib.hid hblk
  have HRUN := Lib.hid hrun
  clear hblk hrun
  have HH := Lib.hid h
  clear h
  go_enter Try.func21, Try.ntmps21
  go_upto_region 1 with fail
  obtain ⟨V, hV, hEV, b1, -⟩ := gbox_val w (.slice ao n cap)
  rw [← hV]
  clear hV
  obtain ⟨C, hCe⟩ : ∃ C, w.heap.size = C := ⟨_, rfl⟩
  rw [hCe] at b1 ⊢
  have HN := Lib.hid (HH.out.below hEV)
  have HEV := Lib.hid hEV
  have HCV := Lib.hid hCe
  have k0 := b1.c
  have HB := Lib.hid b1
  have HBE := Lib.hid (show ∀ wx, Ext V wx → wx.cell? ⟨C, 0, none⟩ = some (.slice ao n cap) from fun wx hx => (HB.out.low hx HB.out.lt).c)
  clear hCe hEV b1 HB
  have C1 := Lib.hid (checkG_any ao n cap a V HN.out hg hn)
  clear hg
  go_wp2_with fail
  refine C1.out.mono ?_
  rintro e w3 ⟨rfl, hE⟩
  have RE := Lib.hid hE
  clear hE C1
  have k0 := HBE.out _ RE.out
  obtain ⟨sb, hsb⟩ : ∃ s, w3.heap.size = s := ⟨_, rfl⟩
  have hrun := HRUN.out w3
  have hbo := HBLK.out w3
  have hEO : Ext w3 (w3.alloc O) := (Below.refl _ _).alloc (Nat.le_refl _) _
  have hsz : (w3.alloc O).heap.size = sb + 1 := by rw [← hsb]; simp
  rw [hsb] at hrun hbo
  have HSB := Lib.hid hsb
  obtain ⟨Y, hY⟩ : ∃ Y, w3.alloc O = Y := ⟨_, rfl⟩
  rw [hY] at hrun hbo hEO hsz
  have hk1 := HBE.out _ (Ext.trans RE.out hEO)
  have HE3 := Lib.hid (show ∀ wx, Upto (sb + 1) sb Y wx → Ext w3 wx from fun wx h => h.ext hEO (Nat.le_of_eq HSB.out) (by rw [HSB.out]; omega))
  have HBX := Lib.hid (show ∀ wx, Upto (sb + 1) sb Y wx → wx.cell? ⟨C, 0, none⟩ = some (.slice ao n cap) from fun wx h => HBE.out _ (Ext.trans RE.out (HE3.out wx h)))
  have H3 := Lib.hid (HN.out.below RE.out)
  have HBO := Lib.hid hbo
  have hszY := Lib.hid hsz
  have HCS := Lib.hid (show C ≤ sb from by rw [← HCV.out, ← HSB.out]; exact (Ext.trans HEV.out RE.out).size)
  clear hsb hbo hEO hsz hY
  go_wp2
  go_loopw [3, 17] (fun lv iv wr => ∃ (i : Nat) (lw : Value) (rs : List Value), i ≤ n ∧ iv = .int .i64 (i : Int) ∧ lw = lv ∧ Hid (RS wr (sb + 1) lw rs (comps n a i).2) ∧ Hid (BoB wr sb (comps n a i).1) ∧ Hid (Upto (sb + 1) sb Y wr) ∧ sb + 1 ≤ wr.heap.size)
    (fun _ iv _ => n - (intOf iv).toNat)
  case atStart => exact ⟨0, _, [], Nat.zero_le _, rfl, rfl, Lib.hid (RS.nil _ _), HBO, Lib.hid (Upto.refl _ _ _), Nat.le_of_eq hszY.out.symm⟩
  case round =>
    clear HBO k0 hk1 hrun
    obtain ⟨i, lw, rs, hi, rfl, rfl, hR, hB, hU, hD⟩ := hrel
    by_cases hlt : i < n
    · have hii : (i : Int) < (n : Int) := by omega
      have hSl := comps_len n a i
      have hfew := comps_few n a i
      have hcs := comps_succ n a i
      have k1 := hB.out.c (j := i) (by rw [hSl]; exact hlt)
      have k0 := HBX.out _ hU.out
      obtain ⟨S, hSe⟩ : ∃ S, (comps n a i).1 = S := ⟨_, rfl⟩
      obtain ⟨M, hMe⟩ : ∃ M, (comps n a i).2 = M := ⟨_, rfl⟩
      unfold stepC at hcs
      rw [hSe] at hSl k1 hB hcs
      rw [hMe] at hfew hcs hR
      have hrsl : rs.length ≤ 1000000 := by have := hR.out.len; omega
      cases hsv : S.getD i false with
      | true =>
        rw [hsv] at k1 hcs
        rw [if_pos rfl] at hcs
        have RB := Lib.hid (show BoB wr sb (comps n a (i + 1)).1 by rw [hcs, hSe]; exact hB.out)
        have RR := Lib.hid (show RS wr (sb + 1) lw rs (comps n a (i + 1)).2 by rw [hcs, hMe]; exact hR.out)
        clear hcs hSe hMe hB hR hsv
        go_wp2
        go_roundw
        case rel => exact ⟨i + 1, _, rs, by omega, by go_num, rfl, RR, RB, hU, hD⟩
        case measure => simp [intOf] <;> omega
      | false =>
        rw [hsv] at k1 hcs
        rw [if_neg (by decide)] at hcs
        obtain ⟨B1, hB1⟩ : ∃ s, wr.heap.size = s := ⟨_, rfl⟩
        have CL := Lib.hid (levels_any ao n cap sb n B1 i a S w3 wr hB1 H3.out (HE3.out _ hU.out) (Nat.le_of_eq HSB.out) hB.out hSl hlt (by omega))
        obtain ⟨f1, f2, f3⟩ := levS_facts (a := a) hSl hlt hn
        have hlev : levs n a (n + 1) (S.set i true) [i] = levS n a S i := rfl
        rw [hlev] at CL
        have HB1 := Lib.hid hB1
        have RC := Lib.hid hcs
        have HRS := hR
        have HU := hU
        have HF1 := Lib.hid f1
        have hnB : sb + 1 ≤ B1 := by omega
        clear hcs hSe hMe hB hR hU hB1 hsv hlev f1
        generalize levS n a S i = ls at *
        go_wp2_with fail
        refine CL.out.mono ?_
        rintro e w4 ⟨lv, rs4, rfl, hrs4, hbo4, hu4⟩
        obtain ⟨po, pc, rfl, -⟩ := hrs4.slE
        have hl4 : rs4.length = ls.length := by rw [← hrs4.len]; simp
        rw [hl4] at hrs4 ⊢
        have CC := Lib.hid (concat_any po ls.length pc (ls.map castZ) w4 hrs4.nssAt HF1.out (by omega) f3)
        obtain ⟨B4, hB4⟩ : ∃ s, w4.heap.size = s := ⟨_, rfl⟩
        have hB14 : B1 ≤ B4 := by rw [← HB1.out, ← hB4]; exact hu4.size
        have R4 := HRS.out.upto hu4 (Nat.le_of_eq HB1.out) (by omega)
        have hfar := R4.lt
        have hU4 := HU.out.trans (hu4.mono hnB)
        rw [hB4] at CC hfar
        have HB4 := Lib.hid hB4
        have HR4 := Lib.hid R4
        have HF4 := Lib.hid hfar
        have HU4 := Lib.hid hU4
        have HO4 := Lib.hid hbo4
        generalize ls.length = p at *
        clear hrs4 hbo4 hu4 hl4 hB4 R4 hfar hU4 CL HRS HU k0 k1
        go_wp2_with fail
        refine CC.out.mono ?_
        rintro e w5 ⟨ov, rfl, hoz, hE5⟩
        have hs5 : B4 ≤ w5.heap.size := by rw [← HB4.out]; exact hE5.size
        have CS := Lib.hid (sort_own B4 ov _ w5 hoz f3 hs5)
        have HR5 := Lib.hid (HR4.out.below hE5)
        have HU5 := Lib.hid (HU4.out.trans (Upto.below hE5 (by rw [HB4.out]; omega)))
        have HO5 := Lib.hid (HO4.out.below hE5 HO4.out.lt)
        clear hoz hE5 CC HR4 HU4 HO4
        go_wp2_with fail
        refine CS.out.mono ?_
        rintro e w6 ⟨rfl, hoz, hB6⟩
        have hz1 : sortZ (ls.map castZ).flatten = oneZ ls := rfl
        rw [hz1] at hoz
        have hs6 : sb + 1 ≤ w6.heap.size := by have := hB6.size; omega
        have hR6 := HR5.out.far (w' := w6) (fun k hk => hB6.block k (HF4.out k (Or.inl hk))) (fun i k hi hk => hB6.block k (HF4.out k (Or.inr ⟨i, hi, hk⟩)))
        have HU6 := Lib.hid (HU5.out.trans (Upto.below hB6 (by omega)))
        have HO6 := Lib.hid (HO5.out.below hB6 (by omega))
        have hfar6 := HF4.out
        have hB4s : sb + 1 ≤ B4 := by omega
        obtain ⟨yo, yc, rfl⟩ := hoz.slE
        clear CS HR5 HU5 HO5 hB6 hz1 hs5
        go_wp2_with (at_builtin; refine wpList_append_rs _ rfl (.tmp 32) (.tmp 34) rfl (sb + 1) B4 _ rs M _ (oneZ ls) rfl rfl hR6 hoz hB4s hfar6 hs6 hrsl ?_)
        intro lv' w7 hR7 hB7
        have RR := Lib.hid (show RS w7 (sb + 1) lv' _ (comps n a (i + 1)).2 by rw [RC.out]; exact hR7)
        have RB := Lib.hid (show BoB w7 sb (comps n a (i + 1)).1 by rw [RC.out]; exact HO6.out.below hB7 (by omega))
        have RU := Lib.hid (HU6.out.trans (Upto.below hB7 (Nat.le_refl _)))
        have RD := Nat.le_trans hs6 hB7.size
        clear hR7 hB7 hR6 hoz hfar6 HU6 HO6
        go_wp2
        go_roundw
        case rel => exact ⟨i + 1, _, _, by omega, by go_num, rfl, RR, RB, RU, RD⟩
        case measure => simp [intOf] <;> omega
    · obtain rfl : n = i := by omega
      have hnn : ¬ (n : Int) < (n : Int) := by omega
      have RF := Lib.hid (Ext.trans HEV.out (Ext.trans RE.out (HE3.out _ hU.out)))
      have RR := Lib.hid (hR.out.mono (C := C) (by have := HCS.out; omega))
      clear hR hB hU
      go_wp2
      go_ret
      exact ⟨_, rfl, ⟨_, by rw [HCV.out]; exact RR.out⟩, RF.out⟩
end Go.Proofs.Ytapcecjbmcoliaa
