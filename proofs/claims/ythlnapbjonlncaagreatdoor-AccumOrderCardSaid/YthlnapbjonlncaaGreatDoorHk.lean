/- AccumOrder returns true, from what its callees do. -/
import Derived.Test.YthlnapbjonlncaaGreatDoorHj
import Derived.Test.YthlnapbjonlncaaGreatDoorGp
namespace Go.Proofs.YthlnapbjonlncaaGreatDoor
open Go Go.RowKit

/-- the lists cut in two, as they lie -/
def Cuts (w : World) (ao : Option Addr) (n cap k : Nat) (x : List Nat) : Prop := (n = 0 ∧ x = []) ∨ ∃ b off, ao = some ⟨b, off, none⟩ ∧ Fs w ao n cap x ∧ k ≤ n

theorem okE6 {d : Dy} (h : d ≠ none) : chkE d = 0 ∧ chk d = d := ⟨if_neg h, if_neg h⟩

set_option maxRecDepth 100000 in
set_option maxHeartbeats 64000000 in
theorem aord_walk (ao bo oo : Option Addr) (n cap cb n2 c2 : Nat) (at3 : Int) (x y : List Nat) (l : List Int) (w : World) (hx : Fs w ao n cap x) (hy : Fs w bo n cb y) (hz : Ns w oo n2 c2 l) (hT : Table w) (hT6 : Table64 w) (hn : n ≤ 10) (hn0 : 0 < n)
    (fx : ∀ f ∈ x, finB f = true) (fy : ∀ f ∈ y, finB f = true)
    (FX0 : Calls Tryz.prog 19 #[.slice ao n cap] w fun e w' => e = .returned (.bool true) ∧ w = w')
    (FY0 : Calls Tryz.prog 19 #[.slice bo n cb] w fun e w' => e = .returned (.bool true) ∧ w = w')
    (AW0 : ∀ W, Ext w W → Calls Tryz.prog 9 #[] W fun e w' => e = .returned (.bool true) ∧ Ext W w') :
    Calls Tryz.prog 4 #[.slice ao n cap, .slice bo n cb, .slice oo n2 c2, .int .i64 at3] w fun e w' => e = .returned (.bool true) ∧ Ext w w' := by
  have AW := Lib.hid AW0
  have FX := Lib.hid FX0
  have FY := Lib.hid FY0
  have HX := Lib.hid hx
  have HY := Lib.hid hy
  have HXL := Lib.hid hx.len
  have HYL := Lib.hid hy.len
  have HFX := Lib.hid fx
  have HFY := Lib.hid fy
  have HZ := Lib.hid (shuffle_any oo n2 c2 n l w hz (by omega) w.heap.size rfl)
  have HTT := Lib.hid (fun W (hE : Ext w W) => hT.below hE)
  have HT6 := Lib.hid (fun W (hE : Ext w W) => hT6.below hE)
  have CP : ∀ W : World, Calls Tryz.prog 21 #[.int .i64 at3, .int .i64 ((n : Int) + 1)] W fun e w' => ∃ j : Nat, j < n + 1 ∧ e = .returned (.int .i64 j) ∧ W = w' := fun W => place_any at3 (n + 1) W (by omega) (by omega)
  have CP' := Lib.hid CP
  clear CP
  have CP := CP'
  clear CP'
  clear FX0 FY0 AW0 hx hy hz fx fy hT hT6
  go_enter Tryz.func4, Tryz.ntmps4
  go_wp2_with fail
  refine FX.out.mono ?_
  rintro e w1 ⟨rfl, rfl⟩
  go_wp2_with fail
  refine FY.out.mono ?_
  rintro e w1 ⟨rfl, rfl⟩
  go_wp2_with fail
  refine HZ.out.mono ?_
  rintro e w1 ⟨vo, O, rfl, hO, hOl, hOp, h1⟩
  have HOP := Lib.hid hOp
  have HOL := Lib.hid hOl
  obtain ⟨go, capo, rfl, -, hgo, hcapo, hoc⟩ := hO.form (by intro h0; rw [h0] at hOl; simp at hOl; omega)
  rw [hOl] at hcapo hoc
  have HOC := Lib.hid hoc
  have H1 := Lib.hid h1
  have HOLN := Lib.hid (show O.length = n from hOl)
  clear hO hoc hOp h1 HZ
  obtain ⟨on, hon⟩ : ∃ on, O.length = on := ⟨_, rfl⟩
  rw [hon]
  obtain rfl : on = n := by rw [← hon]; exact hOl
  clear hon hOl
  obtain ⟨C, hCe⟩ : ∃ C, w1.heap.size = C := ⟨_, rfl⟩
  have HEX : ∀ wx, Below C w1 wx → Ext w1 wx := fun wx h => by rw [← hCe] at h; exact h
  have HEX' := Lib.hid HEX
  clear HEX
  have HEX := HEX'
  clear HEX'
  have hC0 : C ≤ w1.heap.size := by omega
  clear hCe
  go_wp2
  go_loopw [11, 12, 13] (fun pv qv ix wr => ∃ (j : Nat) (Lp Lq : List Nat), j ≤ on ∧ ix = .int .i64 j ∧ Lp = (O.take j).map (fun i => x.getD i 0) ∧ Lq = (O.take j).map (fun i => y.getD i 0) ∧ OF wr C pv Lp ∧ OF wr C qv Lq ∧ (∀ k, pv.ownBlock = some k → qv.ownBlock ≠ some k) ∧ Below C w1 wr ∧ C ≤ wr.heap.size)
    (fun _ _ ix _ => on - (intOf ix).toNat)
  case atStart => exact ⟨0, [], [], Nat.zero_le _, rfl, rfl, rfl, OF.nil _ C, OF.nil _ C, (by intro k hk; cases hk), Below.refl C w1, hC0⟩
  case round =>
    obtain ⟨j, Lp, Lq, hj, rfl, hLp, hLq, hp, hq, hdis, hE, hCs⟩ := hrel
    by_cases hlt : j < on
    · obtain ⟨o, ho⟩ : ∃ o, O.getD j 0 = o := ⟨_, rfl⟩
      have hoj := HOC.out j hlt
      rw [ho] at hoj
      have hon : o < on := by
        have hm : o ∈ O := by
          rw [← ho]; simp only [List.getD, List.getElem?_eq_getElem (show j < O.length by rw [HOLN.out]; exact hlt), Option.getD_some]; exact List.getElem_mem _
        have := HOP.out.mem_iff.1 hm
        simpa using this
      have hx := HX.out.below H1.out
      have hy := HY.out.below H1.out
      obtain ⟨b, off, rfl, hc⟩ := hx.cells (by omega)
      obtain ⟨b', off', rfl, hc'⟩ := hy.cells (by omega)
      have hcx := hc o hon
      have hcy := hc' o hon
      obtain ⟨xo, hxo⟩ : ∃ xo, x.getD o 0 = xo := ⟨_, rfl⟩
      obtain ⟨yo, hyo⟩ : ∃ yo, y.getD o 0 = yo := ⟨_, rfl⟩
      rw [hxo] at hcx
      rw [hyo] at hcy
      have hnp : (O.take (j + 1)).map (fun i => x.getD i 0) = Lp ++ [xo] := by
        rw [List.take_succ_eq_append_getElem (by rw [HOLN.out]; exact hlt), List.map_append, hLp, ← hxo, ← ho]
        simp [List.getD, show j < O.length by rw [HOLN.out]; exact hlt]
      have hnq : (O.take (j + 1)).map (fun i => y.getD i 0) = Lq ++ [yo] := by
        rw [List.take_succ_eq_append_getElem (by rw [HOLN.out]; exact hlt), List.map_append, hLq, ← hyo, ← ho]
        simp [List.getD, show j < O.length by rw [HOLN.out]; exact hlt]
      have HNP := Lib.hid hnp
      have HNQ := Lib.hid hnq
      have hlp : Lp.length ≤ 1000000 := by rw [hLp, List.length_map, List.length_take]; omega
      have hlq : Lq.length ≤ 1000000 := by rw [hLq, List.length_map, List.length_take]; omega
      have HDIS := Lib.hid hdis
      have HP := Lib.hid hp
      have HQ := Lib.hid hq
      have hob : (o : Int) < (on : Int) := by omega
      have HCY : ∀ wx, Below C w1 wx → wx.cell? ⟨go, j, none⟩ = some (.int .i64 (o : Int)) ∧ wx.cell? ⟨b, off + o, none⟩ = some (.int .u64 (xo : Int)) ∧ wx.cell? ⟨b', off' + o, none⟩ = some (.int .u64 (yo : Int)) := fun wx h0 => by
        have h := HEX.out _ h0
        exact ⟨by rw [h.cell (p := ⟨go, j, none⟩) (lt_of_cell hoj)]; exact hoj, by rw [h.cell (p := ⟨b, off + o, none⟩) (lt_of_cell hcx)]; exact hcx, by rw [h.cell (p := ⟨b', off' + o, none⟩) (lt_of_cell hcy)]; exact hcy⟩
      have HCY' := Lib.hid HCY
      clear hc hc' hx hy ho hxo hyo hnp hnq hLp hLq hdis hoj hcx hcy HCY
      obtain ⟨c1, c2, c3⟩ := HCY'.out _ hE
      go_wp2_with (at_builtin; refine wpList_append_float_x _ rfl (.tmp 52) (.tmp 60) rfl C _ Lp xo rfl rfl hp hCs hlp ?_)
      intro pv' w2 hp2 hB2 hx2 hk2
      have hE2 := hE.trans hB2
      obtain ⟨d1, d2, d3⟩ := HCY'.out _ hE2
      have hq2 := HQ.out.of_block (fun k hk => hk2 k (HQ.out.lt k hk).2 (fun h => HDIS.out k h hk))
      have hsz2 := hB2.size
      have hCs2 : C ≤ w2.heap.size := by omega
      have HP2 := Lib.hid hp2
      have HXX := Lib.hid hx2
      clear hp hq hp2 hx2 hk2 c1 c2 c3
      go_wp2_with (at_builtin; refine wpList_append_float_x _ rfl (.tmp 62) (.tmp 70) rfl C _ Lq yo rfl rfl hq2 hCs2 hlq ?_)
      intro qv' w3 hq3 hB3 hx3 hk3
      have hE3 := hE2.trans hB3
      have hsz3 := hB3.size
      have HR := Lib.hid (show Below C w1 w3 from hE3)
      have hp3 := HP2.out.of_block (fun k hk => hk3 k (HP2.out.lt k hk).2 (fun h => (HXX.out k hk).elim (fun h1 => HDIS.out k h1 h) (fun h2 => absurd (HQ.out.lt k h).2 (by omega))))
      have hdis3 : ∀ k, _ → qv'.ownBlock ≠ some k := fun k (hk : Value.ownBlock _ = some k) h => (hx3 k h).elim (fun h1 => (HXX.out k hk).elim (fun h2 => HDIS.out k h2 h1) (fun h2 => absurd (HQ.out.lt k h1).2 (by omega))) (fun h1 => absurd (HP2.out.lt k hk).2 (by omega))
      have HP3 := Lib.hid hp3
      have HQ3 := Lib.hid hq3
      have HD3 := Lib.hid hdis3
      clear hp3 hq3 hdis3 hx3 hk3 hq2
      go_wp2
      go_roundw
      case rel => exact ⟨j + 1, _, _, by omega, by go_num, HNP.out.symm, HNQ.out.symm, HP3.out, HQ3.out, HD3.out, HR.out, by omega⟩
      case measure => simp [intOf] <;> omega
    · obtain rfl : j = on := by omega
      rw [List.take_of_length_le (by rw [HOLN.out]; exact Nat.le_refl _)] at hLp hLq
      have hplt : ∀ f ∈ Lp, f < 18446744073709551616 := by
        intro f hf; rw [hLp] at hf; obtain ⟨g, _, rfl⟩ := List.mem_map.1 hf; exact HX.out.getD_lt g
      have hqlt : ∀ f ∈ Lq, f < 18446744073709551616 := by
        intro f hf; rw [hLq] at hf; obtain ⟨g, _, rfl⟩ := List.mem_map.1 hf; exact HY.out.getD_lt g
      obtain ⟨po, pc, hpv, hps⟩ := hp.form hplt
      obtain ⟨qo, qc, hqv, hqs⟩ := hq.form hqlt
      have hLpl : Lp.length = j := by rw [hLp, List.length_map]; exact HOLN.out
      have hLql : Lq.length = j := by rw [hLq, List.length_map]; exact HOLN.out
      rw [hLpl] at hpv hps
      rw [hLql] at hqv hqs
      rw [hLp] at hps
      rw [hLq] at hqs
      subst hpv hqv
      have hE := HEX.out _ hE
      clear hLp hLq hLpl hLql hplt hqlt hlt hCs hp hq hdis
      have hx := (HX.out.below H1.out).below hE
      have hy := (HY.out.below H1.out).below hE
      have hE := Ext.trans H1.out hE
      obtain ⟨b, off, rfl, -⟩ := hx.cells (by omega)
      obtain ⟨b', off', rfl, -⟩ := hy.cells (by omega)
      go_wp2_with fail
      refine (CP.out _).mono ?_
      rintro e w2 ⟨k, hk, rfl, rfl⟩
      obtain ⟨d, d3, d4, s, I⟩ := ord_is (k := k) HXL.out HYL.out (by omega) HOP.out HFX.out HFY.out
      have I := Lib.hid I
      have hkj : k ≤ j := by omega
      go_wp2_with fail
      refine (adot_any _ _ _ _ _ _ _ _ hx hy (HTT.out _ hE) (HT6.out _ hE) (by omega)).mono ?_
      rw [I.out.e1, (okE6 I.out.n1).1, (okE6 I.out.n1).2]
      rintro e w2 ⟨v1, rfl, hv1, hw⟩
      obtain ⟨ab, an, ao2, ak, ac, ae, rfl⟩ := hv1.parts
      have hx := hx.below hw
      have hy := hy.below hw
      have hps := hps.below hw
      have hqs := hqs.below hw
      have hE := Ext.trans hE hw
      clear hw
      go_upto_region 13 with fail
      obtain ⟨V1, hV, hVB, hb1, hvz⟩ := dbox_new w2 ab an ao2 ak ac ae
      rw [← hV]
      clear hV
      have hv1 := hv1.ext hVB
      have hx := hx.below hVB
      have hy := hy.below hVB
      have hps := hps.below hVB
      have hqs := hqs.below hVB
      have hE := Ext.trans hE hVB
      clear hVB hvz
      generalize w2.heap.size = P1 at *
      go_wp2_with fail
      refine (adot_any _ _ _ _ _ _ _ _ hps hqs (HTT.out _ hE) (HT6.out _ hE) (by omega)).mono ?_
      rw [I.out.e2, (okE6 I.out.n1).1, (okE6 I.out.n1).2]
      rintro e w3 ⟨v2, rfl, hv2, hw⟩
      obtain ⟨bb, bn2, bo2, bk, bc, be, rfl⟩ := hv2.parts
      have hv1 := hv1.ext hw
      have hb1 := hb1.ext hw
      have hx := hx.below hw
      have hy := hy.below hw
      have hps := hps.below hw
      have hqs := hqs.below hw
      have hE := Ext.trans hE hw
      clear hw
      go_upto_region 14 with fail
      obtain ⟨V2, hV, hVB, hb2, hvz⟩ := dbox_new w3 bb bn2 bo2 bk bc be
      rw [← hV]
      clear hV
      have hv1 := hv1.ext hVB
      have hv2 := hv2.ext hVB
      have hb1 := hb1.ext hVB
      have hx := hx.below hVB
      have hy := hy.below hVB
      have hps := hps.below hVB
      have hqs := hqs.below hVB
      have hE := Ext.trans hE hVB
      clear hVB hvz
      generalize w3.heap.size = P2 at *
      have CT := Lib.hid (show ∀ W, Ext V2 W → Calls Tryz.prog 22 #[.slice (some ⟨b, off, none⟩) k cap, .slice (some ⟨b', off', none⟩) k cb] W fun e w' => ∃ v, e = .returned (.tuple #[v, .int .i64 0]) ∧ Dn w' v d3 ∧ Ext W w' from fun W hW => by
        have := adot_any _ _ _ _ _ _ _ W ((hx.take k hkj).below hW) ((hy.take k hkj).below hW) (HTT.out _ (Ext.trans hE hW)) (HT6.out _ (Ext.trans hE hW)) (by omega)
        rw [I.out.e3, (okE6 I.out.n3).1, (okE6 I.out.n3).2] at this
        exact this)
      have hkc : (k : Int) ≤ (cap : Int) := by have := hx.cap; omega
      have hkc' : (k : Int) ≤ (cb : Int) := by have := hy.cap; omega
      have hk0 : (0 : Int) ≤ (k : Int) := by omega
      have hex : Ext V2 V2.drew := (Below.refl _ _).drew
      go_cut [19, 20] from 88 (fun pp ee wx => ∃ u3b u3n u3o u3k u3c u3e P3, pp = .pointer (some ⟨P3, 0, none⟩) ∧ ee = .int .i64 0 ∧ Dn wx (.agg #[.bool u3b, .bool u3n, .slice u3o u3k u3c, .int .i64 u3e]) d3 ∧ DBox wx P3 u3b u3n u3o u3k u3c u3e ∧ Ext V2 wx)
      case first =>
        go_region_with (first
          | (go_at_call 22; refine (CT.out _ (by first | assumption | exact ext_alloc (by assumption) _ | exact ext_ad _ _)).mono ?_; rintro e w3 ⟨v3, rfl, hv3, hw3⟩; have ex2 : Ext V2 w3 := Ext.trans (by first | assumption | exact ext_alloc (by assumption) _ | exact ext_ad _ _) hw3; obtain ⟨rb, rn, ro, rk, rc, re, rfl⟩ := hv3.parts; first | (have bz := dbox_after2 (w := V2) hw3; have y0 := bz.c0; have y1 := bz.c1; have y2 := bz.c2; have y3 := bz.c3; have g0 := bz.f 0; have g1 := bz.f 1; have g2 := bz.f 2; have g3 := bz.f 3; obtain ⟨st1, st2, st3⟩ := box_stored (W := V2) bz hv3 ex2 (Nat.le_refl _)) | skip))
        all_goals
          go_wp2
          go_meet
        all_goals
          first
            | exact ⟨rb, rn, ro, rk, rc, re, _, rfl, rfl, st1, st2, st3⟩
            | exact ⟨rb, rn, ro, rk, rc, re, _, rfl, rfl, hv3.ext (ext_alloc (Ext.refl _) _), DBox.new _ rb rn ro rk rc re, ext_alloc ex2 _⟩
      case rest =>
        obtain ⟨u3b, u3n, u3o, u3k, u3c, u3e, P3, rfl, rfl, hv3, hb3, hE3⟩ := hcut
        have hv1 := hv1.ext hE3
        have hv2 := hv2.ext hE3
        have hb1 := hb1.ext hE3
        have hb2 := hb2.ext hE3
        have hx := hx.below hE3
        have hy := hy.below hE3
        have hps := hps.below hE3
        have hqs := hqs.below hE3
        have hE := Ext.trans hE hE3
        clear hE3 hex CT
        generalize wc = V3 at *
        have CD := Lib.hid (show ∀ W (ao' bo' : Option Addr), (0 < j - k → ao' = some ⟨b, off + k, none⟩ ∧ bo' = some ⟨b', off' + k, none⟩) → Ext V3 W → Calls Tryz.prog 22 #[.slice ao' (j - k) (cap - k), .slice bo' (j - k) (cb - k)] W fun e w' => ∃ v, e = .returned (.tuple #[v, .int .i64 0]) ∧ Dn w' v d4 ∧ Ext W w' from fun W ao' bo' ha hW => by
          have f1 : Fs W ao' (j - k) (cap - k) (x.drop k) := by
            by_cases h0 : 0 < j - k
            · rw [(ha h0).1]; exact (hx.drop k hkj).below hW
            · have hl : x.drop k = [] := by rw [List.drop_eq_nil_iff, HXL.out]; omega
              rw [hl, show j - k = 0 by omega]; exact Fs.nil _ _ _
          have f2 : Fs W bo' (j - k) (cb - k) (y.drop k) := by
            by_cases h0 : 0 < j - k
            · rw [(ha h0).2]; exact (hy.drop k hkj).below hW
            · have hl : y.drop k = [] := by rw [List.drop_eq_nil_iff, HYL.out]; omega
              rw [hl, show j - k = 0 by omega]; exact Fs.nil _ _ _
          have := adot_any _ _ _ _ _ _ _ W f1 f2 (HTT.out _ (Ext.trans hE hW)) (HT6.out _ (Ext.trans hE hW)) (by omega)
          rw [I.out.e4, (okE6 I.out.n4).1, (okE6 I.out.n4).2] at this
          exact this)
        have hex : Ext V3 V3.drew := (Below.refl _ _).drew
        have hjc : j ≤ cap := hx.cap
        have hjc' : j ≤ cb := hy.cap
        obtain ⟨A, hA⟩ : ∃ A, (if cap = k then some (⟨b, off, none⟩ : Addr) else some ⟨b, off + k, none⟩) = A := ⟨_, rfl⟩
        obtain ⟨A', hA'⟩ : ∃ A, (if cb = k then some (⟨b', off', none⟩ : Addr) else some ⟨b', off' + k, none⟩) = A := ⟨_, rfl⟩
        have HAA := Lib.hid (show 0 < j - k → A = some ⟨b, off + k, none⟩ ∧ A' = some ⟨b', off' + k, none⟩ from fun h0 => ⟨by rw [← hA]; exact if_neg (by omega), by rw [← hA']; exact if_neg (by omega)⟩)
        go_upto_region 15 with fail
        go_cut [21, 22] from 98 (fun pp ee wx => ∃ u4b u4n u4o u4k u4c u4e P4, pp = .pointer (some ⟨P4, 0, none⟩) ∧ ee = .int .i64 0 ∧ Dn wx (.agg #[.bool u4b, .bool u4n, .slice u4o u4k u4c, .int .i64 u4e]) d4 ∧ DBox wx P4 u4b u4n u4o u4k u4c u4e ∧ Ext V3 wx)
        case first =>
          go_region_with (first
            | (go_at_call 22; refine (CD.out _ _ _ HAA.out (by first | assumption | exact ext_alloc (by assumption) _ | exact ext_ad _ _)).mono ?_; rintro e w3 ⟨v3, rfl, hv3', hw3⟩; have ex2 : Ext V3 w3 := Ext.trans (by first | assumption | exact ext_alloc (by assumption) _ | exact ext_ad _ _) hw3; obtain ⟨rb, rn, ro, rk, rc, re, rfl⟩ := hv3'.parts; first | (have bz := dbox_after2 (w := V3) hw3; have y0 := bz.c0; have y1 := bz.c1; have y2 := bz.c2; have y3 := bz.c3; have g0 := bz.f 0; have g1 := bz.f 1; have g2 := bz.f 2; have g3 := bz.f 3; obtain ⟨st1, st2, st3⟩ := box_stored (W := V3) bz hv3' ex2 (Nat.le_refl _)) | skip))
          all_goals
            go_wp2
            go_meet
          all_goals
            first
              | exact ⟨rb, rn, ro, rk, rc, re, _, rfl, rfl, st1, st2, st3⟩
              | exact ⟨rb, rn, ro, rk, rc, re, _, rfl, rfl, hv3'.ext (ext_alloc (Ext.refl _) _), DBox.new _ rb rn ro rk rc re, ext_alloc ex2 _⟩
        case rest =>
          obtain ⟨u4b, u4n, u4o, u4k, u4c, u4e, P4, rfl, rfl, hv4, hb4, hE4⟩ := hcut
          have hv1 := hv1.ext hE4
          have hv2 := hv2.ext hE4
          have hv3 := hv3.ext hE4
          have hb1 := hb1.ext hE4
          have hb2 := hb2.ext hE4
          have hb3 := hb3.ext hE4
          have hx := hx.below hE4
          have hy := hy.below hE4
          have hps := hps.below hE4
          have hqs := hqs.below hE4
          have hE := Ext.trans hE hE4
          clear hE4 hex CD hjc hjc' hkc hkc'
          generalize wc = V4 at *
          have HC : ∀ wx, Ext V4 wx → (wx.cell? ⟨P1, 0, none⟩ = some (.bool ab) ∧ wx.cell? ⟨P1, 1, none⟩ = some (.bool an) ∧ wx.cell? ⟨P1, 2, none⟩ = some (.slice ao2 ak ac) ∧ wx.cell? ⟨P1, 3, none⟩ = some (.int .i64 ae)) ∧ (wx.cell? ⟨P2, 0, none⟩ = some (.bool bb) ∧ wx.cell? ⟨P2, 1, none⟩ = some (.bool bn2) ∧ wx.cell? ⟨P2, 2, none⟩ = some (.slice bo2 bk bc) ∧ wx.cell? ⟨P2, 3, none⟩ = some (.int .i64 be)) ∧ (wx.cell? ⟨P3, 0, none⟩ = some (.bool u3b) ∧ wx.cell? ⟨P3, 1, none⟩ = some (.bool u3n) ∧ wx.cell? ⟨P3, 2, none⟩ = some (.slice u3o u3k u3c) ∧ wx.cell? ⟨P3, 3, none⟩ = some (.int .i64 u3e)) ∧ (wx.cell? ⟨P4, 0, none⟩ = some (.bool u4b) ∧ wx.cell? ⟨P4, 1, none⟩ = some (.bool u4n) ∧ wx.cell? ⟨P4, 2, none⟩ = some (.slice u4o u4k u4c) ∧ wx.cell? ⟨P4, 3, none⟩ = some (.int .i64 u4e)) := fun wx h =>
            ⟨⟨(hb1.ext h).c0, (hb1.ext h).c1, (hb1.ext h).c2, (hb1.ext h).c3⟩, ⟨(hb2.ext h).c0, (hb2.ext h).c1, (hb2.ext h).c2, (hb2.ext h).c3⟩, ⟨(hb3.ext h).c0, (hb3.ext h).c1, (hb3.ext h).c2, (hb3.ext h).c3⟩, ⟨(hb4.ext h).c0, (hb4.ext h).c1, (hb4.ext h).c2, (hb4.ext h).c3⟩⟩
          have HC' := Lib.hid HC
          clear HC hb1 hb2 hb3 hb4
          obtain ⟨⟨k0, k1, k2, k3⟩, ⟨l0, l1, l2, l3⟩, ⟨m0, m1, m2, m3⟩, ⟨n0, n1, n3, n4⟩⟩ := HC'.out V4 (Ext.refl _)
          have hex : Ext V4 V4.drew := (Below.refl _ _).drew
          have HE := Lib.hid hE
          have HEV := Lib.hid (fun wx (h : Ext V4 wx) => Ext.trans HE.out h)
          have HXS := Lib.hid hx
          have HPS := Lib.hid hps
          clear hE hx hy hps hqs
          have st0 : DSt V4 V4.drew [⟨.agg #[.bool ab, .bool an, .slice ao2 ak ac, .int .i64 ae], d, true⟩, ⟨.agg #[.bool bb, .bool bn2, .slice bo2 bk bc, .int .i64 be], d, true⟩, ⟨.agg #[.bool u3b, .bool u3n, .slice u3o u3k u3c, .int .i64 u3e], d3, true⟩, ⟨.agg #[.bool u4b, .bool u4n, .slice u4o u4k u4c, .int .i64 u4e], d4, true⟩] := by
            refine ⟨hex, (HTT.out _ HE.out).below hex, fun p hp => ?_⟩
            simp only [List.mem_cons, List.not_mem_nil, or_false] at hp
            rcases hp with rfl | rfl | rfl | rfl
            · exact dok_dn (hv1.ext hex)
            · exact dok_dn (hv2.ext hex)
            · exact dok_dn (hv3.ext hex)
            · exact dok_dn (hv4.ext hex)
          clear hv1 hv2 hv3 hv4
          go_upto_region 16 with fail
          go_region_held3 (fun wx => (wx.cell? ⟨P1, 0, none⟩ = some (.bool ab) ∧ wx.cell? ⟨P1, 1, none⟩ = some (.bool an) ∧ wx.cell? ⟨P1, 2, none⟩ = some (.slice ao2 ak ac) ∧ wx.cell? ⟨P1, 3, none⟩ = some (.int .i64 ae)) ∧ (wx.cell? ⟨P2, 0, none⟩ = some (.bool bb) ∧ wx.cell? ⟨P2, 1, none⟩ = some (.bool bn2) ∧ wx.cell? ⟨P2, 2, none⟩ = some (.slice bo2 bk bc) ∧ wx.cell? ⟨P2, 3, none⟩ = some (.int .i64 be)) ∧ (wx.cell? ⟨P3, 0, none⟩ = some (.bool u3b) ∧ wx.cell? ⟨P3, 1, none⟩ = some (.bool u3n) ∧ wx.cell? ⟨P3, 2, none⟩ = some (.slice u3o u3k u3c) ∧ wx.cell? ⟨P3, 3, none⟩ = some (.int .i64 u3e)) ∧ (wx.cell? ⟨P4, 0, none⟩ = some (.bool u4b) ∧ wx.cell? ⟨P4, 1, none⟩ = some (.bool u4n) ∧ wx.cell? ⟨P4, 2, none⟩ = some (.slice u4o u4k u4c) ∧ wx.cell? ⟨P4, 3, none⟩ = some (.int .i64 u4e)))
            (first | exact HC'.out _ (by first | assumption | exact DSt.ext (by assumption)))
            (first
              | (go_at_call 14; refine (dadd_bag (by assumption) (by repeat (first | exact List.Mem.head _ | refine List.Mem.tail _ ?_)) (by repeat (first | exact List.Mem.head _ | refine List.Mem.tail _ ?_))).mono ?_; rintro e wa ⟨ra, rfl, sta⟩; rw [I.out.sum] at sta)
              | (go_at_call 13; refine (dkit_bag (by assumption) (by repeat (first | exact List.Mem.head _ | refine List.Mem.tail _ ?_)) (by repeat (first | exact List.Mem.head _ | refine List.Mem.tail _ ?_)) rfl).mono ?_; rintro e wk ⟨rfl, stk⟩))
          have h5 : Ext V4 wk := DSt.ext (by assumption)
          clear k0 k1 k2 k3 l0 l1 l2 l3 m0 m1 m2 m3 n0 n1 n3 n4
          go_wp2_with fail
          refine (asum_any _ _ _ _ _ (HXS.out.below h5) (HTT.out _ (HEV.out _ h5)) (HT6.out _ (HEV.out _ h5)) (by omega)).mono ?_
          rw [I.out.s1]
          rintro e w6 ⟨v6, rfl, hv6, hw6⟩
          have h6 := Ext.trans h5 hw6
          go_wp2_with fail
          refine (asum_any _ _ _ _ _ (HPS.out.below h6) (HTT.out _ (HEV.out _ h6)) (HT6.out _ (HEV.out _ h6)) (by omega)).mono ?_
          rw [I.out.s2]
          rintro e w7 ⟨v7, rfl, hv7, hw7⟩
          have h7 := Ext.trans h6 hw7
          have hv6 := hv6.ext hw7
          go_wp2_with fail
          refine (kitDyad_same _ _ _ _ hv6 hv7).mono ?_
          rintro e w8 ⟨rfl, hw8⟩
          have h8 := Ext.trans h7 hw8
          go_wp2_with fail
          refine (AW.out _ (HEV.out _ h8)).mono ?_
          rintro e w9 ⟨rfl, hw9⟩
          have h9 := HEV.out _ (Ext.trans h8 hw9)
          go_wp2
          go_ret
          exact ⟨rfl, h9⟩
end Go.Proofs.YthlnapbjonlncaaGreatDoor

/- AccumOrder on empty lists. -/
namespace Go.Proofs.YthlnapbjonlncaaGreatDoor
open Go Go.RowKit

set_option maxRecDepth 100000 in
set_option maxHeartbeats 64000000 in
theorem aord_zero (ao bo oo : Option Addr) (cap cb n2 c2 : Nat) (at3 : Int) (l : List Int) (w : World) (hz : Ns w oo n2 c2 l) (hT : Table w) (hT6 : Table64 w)
    (FX0 : Calls Tryz.prog 19 #[.slice ao 0 cap] w fun e w' => e = .returned (.bool true) ∧ w = w')
    (FY0 : Calls Tryz.prog 19 #[.slice bo 0 cb] w fun e w' => e = .returned (.bool true) ∧ w = w')
    (AW0 : ∀ W, Ext w W → Calls Tryz.prog 9 #[] W fun e w' => e = .returned (.bool true) ∧ Ext W w') :
    Calls Tryz.prog 4 #[.slice ao 0 cap, .slice bo 0 cb, .slice oo n2 c2, .int .i64 at3] w fun e w' => e = .returned (.bool true) ∧ Ext w w' := by
  have AW := Lib.hid AW0
  have FX := Lib.hid FX0
  have FY := Lib.hid FY0
  have HZ := Lib.hid (shuffle_any oo n2 c2 0 l w hz (by omega) w.heap.size rfl)
  have HTT := Lib.hid (fun W (hE : Ext w W) => hT.below hE)
  have HT6 := Lib.hid (fun W (hE : Ext w W) => hT6.below hE)
  have CP := Lib.hid (show ∀ W : World, Calls Tryz.prog 21 #[.int .i64 at3, .int .i64 1] W fun e w' => ∃ j : Nat, j < 1 ∧ e = .returned (.int .i64 j) ∧ W = w' from fun W => place_any at3 1 W (by omega) (by omega))
  obtain ⟨d, d3, d4, s, I⟩ := ord_is (x := []) (y := []) (O := []) (n := 0) (k := 0) rfl rfl (by omega) (List.Perm.refl _) (by simp) (by simp)
  obtain rfl : d = d3 := I.e1.symm.trans I.e3
  obtain rfl : d = d4 := I.e1.symm.trans I.e4
  have HSUM := Lib.hid I.sum
  have CD := Lib.hid (show ∀ W (ao' bo' : Option Addr) (ca' cb' : Nat), Ext w W → Calls Tryz.prog 22 #[.slice ao' 0 ca', .slice bo' 0 cb'] W fun e w' => ∃ v, e = .returned (.tuple #[v, .int .i64 0]) ∧ Dn w' v d ∧ Ext W w' from fun W ao' bo' ca' cb' hW => by
    have := adot_any ao' bo' 0 ca' cb' [] [] W (Fs.nil _ _ _) (Fs.nil _ _ _) (hT.below hW) (hT6.below hW) (by omega)
    rw [I.e1, (okE6 I.n1).1, (okE6 I.n1).2] at this
    exact this)
  have CS := Lib.hid (show ∀ W (ao' : Option Addr) (ca' : Nat), Ext w W → Calls Tryz.prog 23 #[.slice ao' 0 ca'] W fun e w' => ∃ v, e = .returned v ∧ Dn w' v s ∧ Ext W w' from fun W ao' ca' hW => by
    have := asum_any ao' 0 ca' [] W (Fs.nil _ _ _) (hT.below hW) (hT6.below hW) (by omega)
    rw [I.s1] at this
    exact this)
  clear FX0 FY0 AW0 hz hT hT6 I
  go_enter Tryz.func4, Tryz.ntmps4
  go_wp2_with fail
  refine FX.out.mono ?_
  rintro e w1 ⟨rfl, rfl⟩
  go_wp2_with fail
  refine FY.out.mono ?_
  rintro e w1 ⟨rfl, rfl⟩
  go_wp2_with fail
  refine HZ.out.mono ?_
  rintro e w1 ⟨vo, O, rfl, hO, hOl, hOp, hE⟩
  clear hO hOp hOl HZ
  go_wp2
  go_loopw [11, 12, 13] (fun pv qv ix wr => pv = .slice none 0 0 ∧ qv = .slice none 0 0 ∧ ix = .int .i64 0 ∧ Ext w wr)
    (fun _ _ _ _ => 0)
  case atStart => exact ⟨rfl, rfl, rfl, hE⟩
  obtain ⟨rfl, rfl, rfl, hE⟩ := hrel
  go_wp2_with fail
  refine (CP.out _).mono ?_
  rintro e w2 ⟨k, hk, rfl, rfl⟩
  obtain rfl : k = 0 := by omega
  go_wp2_with fail
  refine (CD.out _ _ _ _ _ hE).mono ?_
  rintro e w2 ⟨v1, rfl, hv1, hw⟩
  obtain ⟨ab, an, ao2, ak, ac, ae, rfl⟩ := hv1.parts
  have hE := Ext.trans hE hw
  clear hw
  go_upto_region 13 with fail
  obtain ⟨V1, hV, hVB, hb1, hvz⟩ := dbox_new w2 ab an ao2 ak ac ae
  rw [← hV]
  clear hV
  have hv1 := hv1.ext hVB
  have hE := Ext.trans hE hVB
  clear hVB hvz
  generalize w2.heap.size = P1 at *
  go_wp2_with fail
  refine (CD.out _ _ _ _ _ hE).mono ?_
  rintro e w2 ⟨v2, rfl, hv2, hw⟩
  obtain ⟨bb, bn2, bo2, bk, bc, be, rfl⟩ := hv2.parts
  have hv1 := hv1.ext hw
  have hb1 := hb1.ext hw
  have hE := Ext.trans hE hw
  clear hw
  go_upto_region 14 with fail
  obtain ⟨V2, hV, hVB, hb2, hvz⟩ := dbox_new w2 bb bn2 bo2 bk bc be
  rw [← hV]
  clear hV
  have hv1 := hv1.ext hVB
  have hv2 := hv2.ext hVB
  have hb1 := hb1.ext hVB
  have hE := Ext.trans hE hVB
  clear hVB hvz
  generalize w2.heap.size = P2 at *
  have hex : Ext V2 V2.drew := (Below.refl _ _).drew
  have CDV2 := Lib.hid (fun (W : World) (ao' bo' : Option Addr) (ca' cb' : Nat) (hW : Ext V2 W) => CD.out W ao' bo' ca' cb' (Ext.trans hE hW))
  go_upto_region 14 with fail
  go_cut [19, 20] from 88 (fun pp ee wx => ∃ u3b u3n u3o u3k u3c u3e P3, pp = .pointer (some ⟨P3, 0, none⟩) ∧ ee = .int .i64 0 ∧ Dn wx (.agg #[.bool u3b, .bool u3n, .slice u3o u3k u3c, .int .i64 u3e]) d ∧ DBox wx P3 u3b u3n u3o u3k u3c u3e ∧ Ext V2 wx)
  case first =>
    go_region_with (first
      | (go_at_call 22; refine (CDV2.out _ _ _ _ _ (by first | assumption | exact ext_alloc (by assumption) _ | exact ext_ad _ _)).mono ?_; rintro e w3 ⟨v3, rfl, hv3', hw3⟩; have ex2 : Ext V2 w3 := Ext.trans (by first | assumption | exact ext_alloc (by assumption) _ | exact ext_ad _ _) hw3; obtain ⟨rb, rn, ro, rk, rc, re, rfl⟩ := hv3'.parts; first | (have bz := dbox_after2 (w := V2) hw3; have y0 := bz.c0; have y1 := bz.c1; have y2 := bz.c2; have y3 := bz.c3; have g0 := bz.f 0; have g1 := bz.f 1; have g2 := bz.f 2; have g3 := bz.f 3; obtain ⟨st1, st2, st3⟩ := box_stored (W := V2) bz hv3' ex2 (Nat.le_refl _)) | skip))
    all_goals
      go_wp2
      go_meet
    all_goals
      first
        | exact ⟨rb, rn, ro, rk, rc, re, _, rfl, rfl, st1, st2, st3⟩
        | exact ⟨rb, rn, ro, rk, rc, re, _, rfl, rfl, hv3'.ext (ext_alloc (Ext.refl _) _), DBox.new _ rb rn ro rk rc re, ext_alloc ex2 _⟩
  case rest =>
    obtain ⟨u3b, u3n, u3o, u3k, u3c, u3e, P3, rfl, rfl, hv3, hb3, hEE⟩ := hcut
    have hv1 := hv1.ext hEE
    have hb1 := hb1.ext hEE
    have hv2 := hv2.ext hEE
    have hb2 := hb2.ext hEE
    have hE := Ext.trans hE hEE
    clear hEE hex CDV2
    generalize wc = V3 at *
    have hex : Ext V3 V3.drew := (Below.refl _ _).drew
    have CDV3 := Lib.hid (fun (W : World) (ao' bo' : Option Addr) (ca' cb' : Nat) (hW : Ext V3 W) => CD.out W ao' bo' ca' cb' (Ext.trans hE hW))
    go_upto_region 15 with fail
    go_cut [21, 22] from 98 (fun pp ee wx => ∃ u4b u4n u4o u4k u4c u4e P4, pp = .pointer (some ⟨P4, 0, none⟩) ∧ ee = .int .i64 0 ∧ Dn wx (.agg #[.bool u4b, .bool u4n, .slice u4o u4k u4c, .int .i64 u4e]) d ∧ DBox wx P4 u4b u4n u4o u4k u4c u4e ∧ Ext V3 wx)
    case first =>
      go_region_with (first
        | (go_at_call 22; refine (CDV3.out _ _ _ _ _ (by first | assumption | exact ext_alloc (by assumption) _ | exact ext_ad _ _)).mono ?_; rintro e w3 ⟨v3, rfl, hv3', hw3⟩; have ex2 : Ext V3 w3 := Ext.trans (by first | assumption | exact ext_alloc (by assumption) _ | exact ext_ad _ _) hw3; obtain ⟨rb, rn, ro, rk, rc, re, rfl⟩ := hv3'.parts; first | (have bz := dbox_after2 (w := V3) hw3; have y0 := bz.c0; have y1 := bz.c1; have y2 := bz.c2; have y3 := bz.c3; have g0 := bz.f 0; have g1 := bz.f 1; have g2 := bz.f 2; have g3 := bz.f 3; obtain ⟨st1, st2, st3⟩ := box_stored (W := V3) bz hv3' ex2 (Nat.le_refl _)) | skip))
      all_goals
        go_wp2
        go_meet
      all_goals
        first
          | exact ⟨rb, rn, ro, rk, rc, re, _, rfl, rfl, st1, st2, st3⟩
          | exact ⟨rb, rn, ro, rk, rc, re, _, rfl, rfl, hv3'.ext (ext_alloc (Ext.refl _) _), DBox.new _ rb rn ro rk rc re, ext_alloc ex2 _⟩
    case rest =>
      obtain ⟨u4b, u4n, u4o, u4k, u4c, u4e, P4, rfl, rfl, hv4, hb4, hEE⟩ := hcut
      have hv1 := hv1.ext hEE
      have hb1 := hb1.ext hEE
      have hv2 := hv2.ext hEE
      have hb2 := hb2.ext hEE
      have hv3 := hv3.ext hEE
      have hb3 := hb3.ext hEE
      have hE := Ext.trans hE hEE
      clear hEE hex CDV3
      generalize wc = V4 at *
      have HC : ∀ wx, Ext V4 wx → (wx.cell? ⟨P1, 0, none⟩ = some (.bool ab) ∧ wx.cell? ⟨P1, 1, none⟩ = some (.bool an) ∧ wx.cell? ⟨P1, 2, none⟩ = some (.slice ao2 ak ac) ∧ wx.cell? ⟨P1, 3, none⟩ = some (.int .i64 ae)) ∧ (wx.cell? ⟨P2, 0, none⟩ = some (.bool bb) ∧ wx.cell? ⟨P2, 1, none⟩ = some (.bool bn2) ∧ wx.cell? ⟨P2, 2, none⟩ = some (.slice bo2 bk bc) ∧ wx.cell? ⟨P2, 3, none⟩ = some (.int .i64 be)) ∧ (wx.cell? ⟨P3, 0, none⟩ = some (.bool u3b) ∧ wx.cell? ⟨P3, 1, none⟩ = some (.bool u3n) ∧ wx.cell? ⟨P3, 2, none⟩ = some (.slice u3o u3k u3c) ∧ wx.cell? ⟨P3, 3, none⟩ = some (.int .i64 u3e)) ∧ (wx.cell? ⟨P4, 0, none⟩ = some (.bool u4b) ∧ wx.cell? ⟨P4, 1, none⟩ = some (.bool u4n) ∧ wx.cell? ⟨P4, 2, none⟩ = some (.slice u4o u4k u4c) ∧ wx.cell? ⟨P4, 3, none⟩ = some (.int .i64 u4e)) := fun wx h =>
        ⟨⟨(hb1.ext h).c0, (hb1.ext h).c1, (hb1.ext h).c2, (hb1.ext h).c3⟩, ⟨(hb2.ext h).c0, (hb2.ext h).c1, (hb2.ext h).c2, (hb2.ext h).c3⟩, ⟨(hb3.ext h).c0, (hb3.ext h).c1, (hb3.ext h).c2, (hb3.ext h).c3⟩, ⟨(hb4.ext h).c0, (hb4.ext h).c1, (hb4.ext h).c2, (hb4.ext h).c3⟩⟩
      have HC' := Lib.hid HC
      clear HC hb1 hb2 hb3 hb4
      obtain ⟨⟨k0, k1, k2, k3⟩, ⟨l0, l1, l2, l3⟩, ⟨m0, m1, m2, m3⟩, ⟨n0, n1, n3, n4⟩⟩ := HC'.out V4 (Ext.refl _)
      have hex : Ext V4 V4.drew := (Below.refl _ _).drew
      have HE := Lib.hid hE
      have HEV := Lib.hid (fun wx (h : Ext V4 wx) => Ext.trans HE.out h)
      clear hE
      have st0 : DSt V4 V4.drew [⟨.agg #[.bool ab, .bool an, .slice ao2 ak ac, .int .i64 ae], d, true⟩, ⟨.agg #[.bool bb, .bool bn2, .slice bo2 bk bc, .int .i64 be], d, true⟩, ⟨.agg #[.bool u3b, .bool u3n, .slice u3o u3k u3c, .int .i64 u3e], d, true⟩, ⟨.agg #[.bool u4b, .bool u4n, .slice u4o u4k u4c, .int .i64 u4e], d, true⟩] := by
        refine ⟨hex, (HTT.out _ HE.out).below hex, fun p hp => ?_⟩
        simp only [List.mem_cons, List.not_mem_nil, or_false] at hp
        rcases hp with rfl | rfl | rfl | rfl
        · exact dok_dn (hv1.ext hex)
        · exact dok_dn (hv2.ext hex)
        · exact dok_dn (hv3.ext hex)
        · exact dok_dn (hv4.ext hex)
      clear hv1 hv2 hv3 hv4
      go_upto_region 16 with fail
      go_region_held3 (fun wx => (wx.cell? ⟨P1, 0, none⟩ = some (.bool ab) ∧ wx.cell? ⟨P1, 1, none⟩ = some (.bool an) ∧ wx.cell? ⟨P1, 2, none⟩ = some (.slice ao2 ak ac) ∧ wx.cell? ⟨P1, 3, none⟩ = some (.int .i64 ae)) ∧ (wx.cell? ⟨P2, 0, none⟩ = some (.bool bb) ∧ wx.cell? ⟨P2, 1, none⟩ = some (.bool bn2) ∧ wx.cell? ⟨P2, 2, none⟩ = some (.slice bo2 bk bc) ∧ wx.cell? ⟨P2, 3, none⟩ = some (.int .i64 be)) ∧ (wx.cell? ⟨P3, 0, none⟩ = some (.bool u3b) ∧ wx.cell? ⟨P3, 1, none⟩ = some (.bool u3n) ∧ wx.cell? ⟨P3, 2, none⟩ = some (.slice u3o u3k u3c) ∧ wx.cell? ⟨P3, 3, none⟩ = some (.int .i64 u3e)) ∧ (wx.cell? ⟨P4, 0, none⟩ = some (.bool u4b) ∧ wx.cell? ⟨P4, 1, none⟩ = some (.bool u4n) ∧ wx.cell? ⟨P4, 2, none⟩ = some (.slice u4o u4k u4c) ∧ wx.cell? ⟨P4, 3, none⟩ = some (.int .i64 u4e)))
        (first | exact HC'.out _ (by first | assumption | exact DSt.ext (by assumption)))
        (first
          | (go_at_call 14; refine (dadd_bag (by assumption) (by repeat (first | exact List.Mem.head _ | refine List.Mem.tail _ ?_)) (by repeat (first | exact List.Mem.head _ | refine List.Mem.tail _ ?_))).mono ?_; rintro e wa ⟨ra, rfl, sta⟩; rw [HSUM.out] at sta)
          | (go_at_call 13; refine (dkit_bag (by assumption) (by repeat (first | exact List.Mem.head _ | refine List.Mem.tail _ ?_)) (by repeat (first | exact List.Mem.head _ | refine List.Mem.tail _ ?_)) rfl).mono ?_; rintro e wk ⟨rfl, stk⟩))
      have h5 : Ext V4 wk := DSt.ext (by assumption)
      clear k0 k1 k2 k3 l0 l1 l2 l3 m0 m1 m2 m3 n0 n1 n3 n4
      go_wp2_with fail
      refine (CS.out _ _ _ (HEV.out _ h5)).mono ?_
      rintro e w6 ⟨v6, rfl, hv6, hw6⟩
      have h6 := Ext.trans h5 hw6
      go_wp2_with fail
      refine (CS.out _ _ _ (HEV.out _ h6)).mono ?_
      rintro e w7 ⟨v7, rfl, hv7, hw7⟩
      have h7 := Ext.trans h6 hw7
      have hv6 := hv6.ext hw7
      go_wp2_with fail
      refine (kitDyad_same _ _ _ _ hv6 hv7).mono ?_
      rintro e w8 ⟨rfl, hw8⟩
      have h8 := Ext.trans h7 hw8
      go_wp2_with fail
      refine (AW.out _ (HEV.out _ h8)).mono ?_
      rintro e w9 ⟨rfl, hw9⟩
      have h9 := HEV.out _ (Ext.trans h8 hw9)
      go_wp2
      go_ret
      exact ⟨rfl, h9⟩

end Go.Proofs.YthlnapbjonlncaaGreatDoor

/- AccumOrder returns true: every case. -/
namespace Go.Proofs.YthlnapbjonlncaaGreatDoor
open Go Go.RowKit

set_option maxRecDepth 100000 in
set_option maxHeartbeats 16000000 in
theorem aord_any (at3 : Int) (ao bo oo : Option Addr) (n cap m cb n2 c2 : Nat) (w : World) (hr0 : n ≤ 1000000 → ∃ l, Fs w ao n cap l) (hr1 : m ≤ 1000000 → ∃ l, Fs w bo m cb l) (hr2 : ∃ l, Ns w oo n2 c2 l) (hT : Table w) (hT6 : Table64 w) :
    Calls Tryz.prog 4 #[.slice ao n cap, .slice bo m cb, .slice oo n2 c2, .int .i64 at3] w fun e w' => e = .returned (.bool true) ∧ Ext w w' := by
  have AW := Lib.hid (fun W (hE : Ext w W) => aawake_any W (hT.below hE) (hT6.below hE))
  by_cases hn : n ≤ 10
  · by_cases hnm : n = m
    · subst hnm
      obtain ⟨x, hx⟩ := hr0 (by omega)
      obtain ⟨y, hy⟩ := hr1 (by omega)
      obtain ⟨l, hz⟩ := hr2
      clear hr0 hr1
      cases fx : x.all finB with
      | false =>
        have FX := Lib.hid (refFinite_any _ _ _ _ w hx (by omega) false fx)
        clear fx
        go_enter Tryz.func4, Tryz.ntmps4
        go_wp2_with fail
        refine FX.out.mono ?_
        rintro e w1 ⟨rfl, rfl⟩
        go_wp2_with fail
        refine (AW.out _ (Ext.refl _)).mono ?_
        rintro e w9 ⟨rfl, h9⟩
        go_wp2
        go_ret
        exact ⟨rfl, h9⟩
      | true =>
        have FX := Lib.hid (refFinite_any _ _ _ _ w hx (by omega) true fx)
        cases fy : y.all finB with
        | false =>
          have FY := Lib.hid (refFinite_any _ _ _ _ w hy (by omega) false fy)
          clear fx fy
          go_enter Tryz.func4, Tryz.ntmps4
          go_wp2_with fail
          refine FX.out.mono ?_
          rintro e w1 ⟨rfl, rfl⟩
          go_wp2_with fail
          refine FY.out.mono ?_
          rintro e w1 ⟨rfl, rfl⟩
          go_wp2_with fail
          refine (AW.out _ (Ext.refl _)).mono ?_
          rintro e w9 ⟨rfl, h9⟩
          go_wp2
          go_ret
          exact ⟨rfl, h9⟩
        | true =>
          have FY := Lib.hid (refFinite_any _ _ _ _ w hy (by omega) true fy)
          by_cases h0 : 0 < n
          · exact aord_walk ao bo oo n cap cb n2 c2 at3 x y l w hx hy hz hT hT6 hn h0 (all_fin fx) (all_fin fy) FX.out FY.out AW.out
          · obtain rfl : n = 0 := by omega
            exact aord_zero ao bo oo cap cb n2 c2 at3 l w hz hT hT6 FX.out FY.out AW.out
    · have hne : ((n : Int) != (m : Int)) = true := by simp; omega
      have hne2 : ((m : Int) != (n : Int)) = true := by simp; omega
      clear hnm hr0 hr1 hr2
      go_enter Tryz.func4, Tryz.ntmps4
      go_wp2_with fail
      refine (AW.out _ (Ext.refl _)).mono ?_
      rintro e w9 ⟨rfl, h9⟩
      go_wp2
      go_ret
      exact ⟨rfl, h9⟩
  · clear hr0 hr1 hr2
    go_enter Tryz.func4, Tryz.ntmps4
    go_wp2_with fail
    refine (AW.out _ (Ext.refl _)).mono ?_
    rintro e w9 ⟨rfl, h9⟩
    go_wp2
    go_ret
    exact ⟨rfl, h9⟩
end Go.Proofs.YthlnapbjonlncaaGreatDoor
