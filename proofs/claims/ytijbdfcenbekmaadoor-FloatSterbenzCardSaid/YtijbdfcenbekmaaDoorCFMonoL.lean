/- FloatMonotone returns true, from what its callees do. -/
import Derived.Test.YtijbdfcenbekmaaDoorCFLaw
namespace Go.Proofs.YtijbdfcenbekmaaDoor
open Go.RowKit

/-- what comparing two dyads gives -/
def DcmpIs (d d' : Dy) (c : Int) (ok : Bool) : Prop := (d = none ∨ d' = none) ∧ c = 0 ∧ ok = false ∨ d ≠ none ∧ d' ≠ none ∧ c = sgn3 (sc d) (sc d') ∧ ok = true
theorem dcmpIs_any (d d' : Dy) : ∃ c ok, DcmpIs d d' c ok := by
  cases d with
  | none => exact ⟨0, false, Or.inl ⟨Or.inl rfl, rfl, rfl⟩⟩
  | some p => cases d' with
    | none => exact ⟨0, false, Or.inl ⟨Or.inr rfl, rfl, rfl⟩⟩
    | some q => exact ⟨_, true, Or.inr ⟨by simp, by simp, rfl, rfl⟩⟩
theorem dcmp_at {u v : Value} {d d' : Dy} {w : World} (hu : Dg w u d) (hv : Dg w v d') (hT : Table w) {c : Int} {ok : Bool} (h : DcmpIs d d' c ok) :
    Calls Tryd.prog 13 #[u, v] w fun e w' => e = .returned (.tuple #[.int .i64 c, .bool ok]) ∧ Ext w w' :=
  (dcmp_any u v d d' w hu hv hT).mono fun e w' ⟨he, hw⟩ => by
    refine ⟨?_, hw⟩
    rcases h with ⟨h0, rfl, rfl⟩ | ⟨h1, h2, rfl, rfl⟩
    · rcases he with ⟨_, he⟩ | ⟨h3, h4, _⟩
      · exact he
      · rcases h0 with h0 | h0
        · exact absurd h0 h3
        · exact absurd h0 h4
    · rcases he with ⟨h0, _⟩ | ⟨_, _, he⟩
      · rcases h0 with h0 | h0
        · exact absurd h0 h1
        · exact absurd h0 h2
      · exact he
theorem fcmpIs_any (a b : Nat) : ∃ s ok, FcmpOut a b s ok ∧ (ok = true → nanB a = false ∧ nanB b = false ∧ s = sgn3 (frank a) (frank b)) := by
  cases ha : nanB a
  · cases hb : nanB b
    · exact ⟨_, true, fcmp_num ha hb rfl, fun _ => ⟨rfl, rfl, rfl⟩⟩
    · exact ⟨0, false, fcmp_nan (Or.inr hb), fun h => by cases h⟩
  · exact ⟨0, false, fcmp_nan (Or.inl ha), fun h => by cases h⟩
theorem sgn3_le {x y : Int} : sgn3 x y ≤ 0 ↔ x ≤ y := by unfold sgn3; split <;> (try split) <;> omega

theorem frd_mono {d d' : Dy} (h1 : d ≠ none) (h2 : d' ≠ none) (hn : Nd d) (hn' : Nd d') (h : sc d ≤ sc d') (mode : Int) : FcmpOut (frdF d mode) (frdF d' mode) (sgn3 (frank (frdF d mode)) (frank (frdF d' mode))) true ∧ sgn3 (frank (frdF d mode)) (frank (frdF d' mode)) ≤ 0 := by
  cases d with
  | none => exact absurd rfl h1
  | some p => cases d' with
    | none => exact absurd rfl h2
    | some q =>
      obtain ⟨m, e⟩ := p
      obtain ⟨m', e'⟩ := q
      have b1 : -65536 ≤ e := (nd_blen hn).2.1
      have b2 : -65536 ≤ e' := (nd_blen hn').2.1
      exact ⟨fcmp_num (rz_facts m e mode).1 (rz_facts m' e' mode).1 rfl, sgn3_le.2 (rz_mono (T := 65536) (by omega) b1 b2 h mode)⟩

set_option maxRecDepth 100000 in
set_option maxHeartbeats 8000000 in
theorem fmonotone_any (ab an : Bool) (ao : Option Addr) (ak ac : Nat) (ae : Int) (bb bn : Bool) (bo : Option Addr) (bk bc : Nat) (be : Int) (f g h : Nat) (mode : Int) (hf : f < 18446744073709551616) (hg : g < 18446744073709551616) (hh : h < 18446744073709551616) (w : World) (ha : RawD w ab an ao ak ac ae) (hb : RawD w bb bn bo bk bc be) (hT : Table w) :
    Calls Tryd.prog 4 #[.agg #[.bool ab, .bool an, .slice ao ak ac, .int .i64 ae], .agg #[.bool bb, .bool bn, .slice bo bk bc, .int .i64 be], .int .u64 (f : Int), .int .u64 (g : Int), .int .u64 (h : Int), .int .i64 mode] w fun e w' => e = .returned (.bool true) ∧ Ext w w' := by
  obtain ⟨p, hp⟩ : ∃ p, faddF f h mode = p := ⟨_, rfl⟩
  obtain ⟨q, hq⟩ : ∃ q, faddF g h mode = q := ⟨_, rfl⟩
  have lp : p < 18446744073709551616 := by rw [← hp]; exact fadd_lt mode hh
  have lq : q < 18446744073709551616 := by rw [← hq]; exact fadd_lt mode hh
  obtain ⟨c1, ok1, F1, G1⟩ := fcmpIs_any f g
  obtain ⟨c2, ok2, F2, G2⟩ := fcmpIs_any p q
  have key : ok1 = true → c1 ≤ 0 → ok2 = true → ¬ 0 < c2 := by
    intro o1 l1 o2
    obtain ⟨n1, n2, rfl⟩ := G1 o1
    obtain ⟨n3, n4, rfl⟩ := G2 o2
    have h1 := sgn3_le.1 l1
    rw [← hp] at n3
    rw [← hq] at n4
    have h2 := add_mono mode hf hg hh n1 n2 h1 n3 n4
    have h3 := sgn3_le.2 h2
    rw [hp, hq] at h3
    omega
  have CP := Lib.hid (fun w => addF_at hf hh hp w)
  have CQ := Lib.hid (fun w => addF_at hg hh hq w)
  have C1 := Lib.hid (fun w => cmpF_at hf hg F1 w)
  have C2 := Lib.hid (fun w => cmpF_at lp lq F2 w)
  have KEY := Lib.hid key
  clear key F1 F2 G1 G2 hp hq lp lq hf hg hh
  go_enter Tryd.func4, Tryd.ntmps4
  go_upto_region 1 with fail
  obtain ⟨W, hW, hB, hx, hy, hz⟩ := boxes_two_d w ab an ao ak ac ae bb bn bo bk bc be
  rw [← hW]
  clear hW
  have ha : RawD W ab an ao ak ac ae := ⟨ha.1, ha.2.1, fun h => by obtain ⟨zs, hs⟩ := ha.2.2 h; exact ⟨zs, hs.below hB⟩⟩
  have hb : RawD W bb bn bo bk bc be := ⟨hb.1, hb.2.1, fun h => by obtain ⟨zs, hs⟩ := hb.2.2 h; exact ⟨zs, hs.below hB⟩⟩
  have HT := Lib.hid (hT.below hB)
  have HB := Lib.hid (show Ext w W from hB)
  have EX := Lib.hid (Ext.refl W)
  clear hB hT hz
  generalize w.heap.size = B at *
  have HC := Lib.hid (show ∀ wx, Ext W wx → (wx.cell? ⟨B, 0, none⟩ = some (.bool ab) ∧ wx.cell? ⟨B, 1, none⟩ = some (.bool an) ∧ wx.cell? ⟨B, 2, none⟩ = some (.slice ao ak ac) ∧ wx.cell? ⟨B, 3, none⟩ = some (.int .i64 ae)) ∧ (wx.cell? ⟨B + 1, 0, none⟩ = some (.bool bb) ∧ wx.cell? ⟨B + 1, 1, none⟩ = some (.bool bn) ∧ wx.cell? ⟨B + 1, 2, none⟩ = some (.slice bo bk bc) ∧ wx.cell? ⟨B + 1, 3, none⟩ = some (.int .i64 be)) from fun wx h => ⟨⟨(hx.ext h).c0, (hx.ext h).c1, (hx.ext h).c2, (hx.ext h).c3⟩, (hy.ext h).c0, (hy.ext h).c1, (hy.ext h).c2, (hy.ext h).c3⟩)
  clear hx hy
  obtain ⟨⟨a0, a1, a2, a3⟩, b0, b1, b2, b3⟩ := HC.out W (Ext.refl _)
  cases hsa : slimSays ak ae 20 3000 with
  | false =>
    have CL := Lib.hid (fun w => slim_no_at ab an ao ak ac ae w false hsa)
    clear hsa ha hb
    go_wp2_with fail
    refine (CL.out _).mono ?_
    rintro r w1 ⟨rfl, hE⟩
    clear a0 a1 a2 a3 b0 b1 b2 b3
    have EX := Lib.hid (Ext.trans EX.out hE)
    clear hE
    go_wp2_with fail
    refine (fawake_any _ (HT.out.below EX.out)).mono ?_
    rintro r wz ⟨rfl, hE⟩
    go_wp2
    go_ret
    exact ⟨rfl, HB.out.trans (Ext.trans EX.out hE)⟩
  | true =>
    have CLA := Lib.hid (fun w => slim_no_at ab an ao ak ac ae w true hsa)
    obtain ⟨d, hda, -, hna⟩ := ha.dl hsa (by omega)
    have HDA := Lib.hid (fun wx (h : Ext W wx) => hda.ext h)
    clear hsa ha hda
    cases hsb : slimSays bk be 20 3000 with
    | false =>
      have CLB := Lib.hid (fun w => slim_no_at bb bn bo bk bc be w false hsb)
      clear hsb hb hna
      go_wp2_with fail
      refine (CLA.out _).mono ?_
      rintro r w1 ⟨rfl, hE⟩
      clear a0 a1 a2 a3 b0 b1 b2 b3
      have EX := Lib.hid (Ext.trans EX.out hE)
      clear hE
      obtain ⟨⟨a0, a1, a2, a3⟩, b0, b1, b2, b3⟩ := HC.out _ EX.out
      go_wp2_with fail
      refine (CLB.out _).mono ?_
      rintro r w2 ⟨rfl, hE⟩
      clear a0 a1 a2 a3 b0 b1 b2 b3
      have EX := Lib.hid (Ext.trans EX.out hE)
      clear hE
      go_wp2_with fail
      refine (fawake_any _ (HT.out.below EX.out)).mono ?_
      rintro r wz ⟨rfl, hE⟩
      go_wp2
      go_ret
      exact ⟨rfl, HB.out.trans (Ext.trans EX.out hE)⟩
    | true =>
      have CLB := Lib.hid (fun w => slim_no_at bb bn bo bk bc be w true hsb)
      obtain ⟨d', hdb, -, hnb⟩ := hb.dl hsb (by omega)
      have HDB := Lib.hid (fun wx (h : Ext W wx) => hdb.ext h)
      clear hsb hb hdb
      obtain ⟨c0, ok0, D0⟩ := dcmpIs_any d d'
      have C0 := Lib.hid (fun wx (h : Ext W wx) => dcmp_at (HDA.out wx h).dg (HDB.out wx h).dg (HT.out.below h) D0)
      have HMONO := Lib.hid (show ok0 = true → c0 ≤ 0 → FcmpOut (frdF d mode) (frdF d' mode) (sgn3 (frank (frdF d mode)) (frank (frdF d' mode))) true ∧ sgn3 (frank (frdF d mode)) (frank (frdF d' mode)) ≤ 0 from fun h1 h2 => by
        rcases D0 with ⟨_, _, h3⟩ | ⟨h3, h4, h5, _⟩
        · rw [h1] at h3; cases h3
        · rw [h5] at h2
          exact frd_mono h3 h4 hna hnb (sgn3_le.1 h2) mode)
      clear D0 hna hnb
      go_wp2_with fail
      refine (CLA.out _).mono ?_
      rintro r w1 ⟨rfl, hE⟩
      clear a0 a1 a2 a3 b0 b1 b2 b3
      have EX := Lib.hid (Ext.trans EX.out hE)
      clear hE
      obtain ⟨⟨a0, a1, a2, a3⟩, b0, b1, b2, b3⟩ := HC.out _ EX.out
      go_wp2_with fail
      refine (CLB.out _).mono ?_
      rintro r w2 ⟨rfl, hE⟩
      clear a0 a1 a2 a3 b0 b1 b2 b3
      have EX := Lib.hid (Ext.trans EX.out hE)
      clear hE
      obtain ⟨⟨a0, a1, a2, a3⟩, b0, b1, b2, b3⟩ := HC.out _ EX.out
      go_wp2_with fail
      refine (C0.out _ EX.out).mono ?_
      rintro r w3 ⟨rfl, hE⟩
      clear a0 a1 a2 a3 b0 b1 b2 b3
      have EX := Lib.hid (Ext.trans EX.out hE)
      clear hE
      by_cases hA : ok0 = true ∧ c0 ≤ 0
      · obtain ⟨k1, k2⟩ := hA
        obtain ⟨j1, j2⟩ := HMONO.out k1 k2
        subst k1
        obtain ⟨u, hu⟩ : ∃ u, frdF d mode = u := ⟨_, rfl⟩
        obtain ⟨v, hv⟩ : ∃ v, frdF d' mode = v := ⟨_, rfl⟩
        have lu := frdF_lt d mode
        have lv := frdF_lt d' mode
        rw [hu] at j1 j2 lu
        rw [hv] at j1 j2 lv
        have CU := Lib.hid (fun wx (h : Ext W wx) => frd_at (HDA.out wx h).dg (HT.out.below h) hu)
        have CV := Lib.hid (fun wx (h : Ext W wx) => frd_at (HDB.out wx h).dg (HT.out.below h) hv)
        obtain ⟨c3, hc3⟩ : ∃ c3, sgn3 (frank u) (frank v) = c3 := ⟨_, rfl⟩
        rw [hc3] at j1 j2
        have C3 := Lib.hid (fun w => cmpF_at lu lv j1 w)
        have nc3 : ¬ 0 < c3 := by omega
        clear hu hv lu lv hc3 j1 j2
        obtain ⟨⟨a0, a1, a2, a3⟩, b0, b1, b2, b3⟩ := HC.out _ EX.out
        go_upto_region 5 with fail
        have e0 : Ext W w3.drew := Ext.trans EX.out ((Below.refl _ _).drew)
        go_cut [15, 16] from 41 (fun x y wx => x = .int .i64 c3 ∧ y = .bool true ∧ Ext W wx)
        case first =>
          go_region_held3 (fun wx => (wx.cell? ⟨B, 0, none⟩ = some (.bool ab) ∧ wx.cell? ⟨B, 1, none⟩ = some (.bool an) ∧ wx.cell? ⟨B, 2, none⟩ = some (.slice ao ak ac) ∧ wx.cell? ⟨B, 3, none⟩ = some (.int .i64 ae)) ∧ (wx.cell? ⟨B + 1, 0, none⟩ = some (.bool bb) ∧ wx.cell? ⟨B + 1, 1, none⟩ = some (.bool bn) ∧ wx.cell? ⟨B + 1, 2, none⟩ = some (.slice bo bk bc) ∧ wx.cell? ⟨B + 1, 3, none⟩ = some (.int .i64 be)))
            (first | exact HC.out _ (by assumption))
            (first
              | (go_at_call 20; with_reducible refine (CU.out _ (by assumption)).mono ?_; rintro e wn ⟨rfl, hE1⟩; have e1 : Ext W wn := Ext.trans (by assumption) hE1)
              | (go_at_call 20; with_reducible refine (CV.out _ (by assumption)).mono ?_; rintro e wm ⟨rfl, hE1⟩; have e1 : Ext W wm := Ext.trans (by assumption) hE1)
              | (go_at_call 19; refine (C3.out _).mono ?_; rintro e wk ⟨rfl, hE1⟩; have e1 : Ext W wk := Ext.trans (by assumption) hE1))
          all_goals
            have EF : Ext W wk := by assumption
            go_wp2
            go_meet
          all_goals
            exact ⟨rfl, rfl, EF⟩
        case rest =>
          obtain ⟨rfl, rfl, hE⟩ := hcut
          have EX := Lib.hid hE
          clear hE a0 a1 a2 a3 b0 b1 b2 b3 e0
          go_wp2_with fail
          refine (C1.out _).mono ?_
          rintro r w4 ⟨rfl, hE⟩
          have EX := Lib.hid (Ext.trans EX.out hE)
          clear hE
          cases ok1 with
          | false =>
            go_wp2_with fail
            refine (fawake_any _ (HT.out.below EX.out)).mono ?_
            rintro r wz ⟨rfl, hE⟩
            go_wp2
            go_ret
            exact ⟨rfl, HB.out.trans (Ext.trans EX.out hE)⟩
          | true =>
            by_cases hl : c1 ≤ 0
            · have K := Lib.hid (KEY.out rfl hl)
              go_wp2_with fail
              refine (CP.out _).mono ?_
              rintro r w5 ⟨rfl, hE⟩
              have EX := Lib.hid (Ext.trans EX.out hE)
              clear hE
              go_wp2_with fail
              refine (CQ.out _).mono ?_
              rintro r w6 ⟨rfl, hE⟩
              have EX := Lib.hid (Ext.trans EX.out hE)
              clear hE
              go_wp2_with fail
              refine (C2.out _).mono ?_
              rintro r w7 ⟨rfl, hE⟩
              have EX := Lib.hid (Ext.trans EX.out hE)
              clear hE
              cases ok2 with
              | false =>
                go_wp2_with fail
                refine (fawake_any _ (HT.out.below EX.out)).mono ?_
                rintro r wz ⟨rfl, hE⟩
                go_wp2
                go_ret
                exact ⟨rfl, HB.out.trans (Ext.trans EX.out hE)⟩
              | true =>
                have k2 := K.out rfl
                go_wp2_with fail
                refine (fawake_any _ (HT.out.below EX.out)).mono ?_
                rintro r wz ⟨rfl, hE⟩
                go_wp2
                go_ret
                exact ⟨rfl, HB.out.trans (Ext.trans EX.out hE)⟩
            · skip
              go_wp2_with fail
              refine (fawake_any _ (HT.out.below EX.out)).mono ?_
              rintro r wz ⟨rfl, hE⟩
              go_wp2
              go_ret
              exact ⟨rfl, HB.out.trans (Ext.trans EX.out hE)⟩
      · have g0 : (ok0 && decide (c0 ≤ 0)) = false := by
          cases ok0
          · rfl
          · rw [Bool.true_and]; exact decide_eq_false (fun h => hA ⟨rfl, h⟩)
        clear hA
        cases ok0 with
        | false =>
          clear g0
          go_wp2_with fail
          refine (C1.out _).mono ?_
          rintro r w4 ⟨rfl, hE⟩
          have EX := Lib.hid (Ext.trans EX.out hE)
          clear hE
          cases ok1 with
          | false =>
            go_wp2_with fail
            refine (fawake_any _ (HT.out.below EX.out)).mono ?_
            rintro r wz ⟨rfl, hE⟩
            go_wp2
            go_ret
            exact ⟨rfl, HB.out.trans (Ext.trans EX.out hE)⟩
          | true =>
            by_cases hl : c1 ≤ 0
            · have K := Lib.hid (KEY.out rfl hl)
              go_wp2_with fail
              refine (CP.out _).mono ?_
              rintro r w5 ⟨rfl, hE⟩
              have EX := Lib.hid (Ext.trans EX.out hE)
              clear hE
              go_wp2_with fail
              refine (CQ.out _).mono ?_
              rintro r w6 ⟨rfl, hE⟩
              have EX := Lib.hid (Ext.trans EX.out hE)
              clear hE
              go_wp2_with fail
              refine (C2.out _).mono ?_
              rintro r w7 ⟨rfl, hE⟩
              have EX := Lib.hid (Ext.trans EX.out hE)
              clear hE
              cases ok2 with
              | false =>
                go_wp2_with fail
                refine (fawake_any _ (HT.out.below EX.out)).mono ?_
                rintro r wz ⟨rfl, hE⟩
                go_wp2
                go_ret
                exact ⟨rfl, HB.out.trans (Ext.trans EX.out hE)⟩
              | true =>
                have k2 := K.out rfl
                go_wp2_with fail
                refine (fawake_any _ (HT.out.below EX.out)).mono ?_
                rintro r wz ⟨rfl, hE⟩
                go_wp2
                go_ret
                exact ⟨rfl, HB.out.trans (Ext.trans EX.out hE)⟩
            · skip
              go_wp2_with fail
              refine (fawake_any _ (HT.out.below EX.out)).mono ?_
              rintro r wz ⟨rfl, hE⟩
              go_wp2
              go_ret
              exact ⟨rfl, HB.out.trans (Ext.trans EX.out hE)⟩
        | true =>
          have g0 : ¬ c0 ≤ 0 := by rw [Bool.true_and] at g0; exact of_decide_eq_false g0
          go_wp2_with fail
          refine (C1.out _).mono ?_
          rintro r w4 ⟨rfl, hE⟩
          have EX := Lib.hid (Ext.trans EX.out hE)
          clear hE
          cases ok1 with
          | false =>
            go_wp2_with fail
            refine (fawake_any _ (HT.out.below EX.out)).mono ?_
            rintro r wz ⟨rfl, hE⟩
            go_wp2
            go_ret
            exact ⟨rfl, HB.out.trans (Ext.trans EX.out hE)⟩
          | true =>
            by_cases hl : c1 ≤ 0
            · have K := Lib.hid (KEY.out rfl hl)
              go_wp2_with fail
              refine (CP.out _).mono ?_
              rintro r w5 ⟨rfl, hE⟩
              have EX := Lib.hid (Ext.trans EX.out hE)
              clear hE
              go_wp2_with fail
              refine (CQ.out _).mono ?_
              rintro r w6 ⟨rfl, hE⟩
              have EX := Lib.hid (Ext.trans EX.out hE)
              clear hE
              go_wp2_with fail
              refine (C2.out _).mono ?_
              rintro r w7 ⟨rfl, hE⟩
              have EX := Lib.hid (Ext.trans EX.out hE)
              clear hE
              cases ok2 with
              | false =>
                go_wp2_with fail
                refine (fawake_any _ (HT.out.below EX.out)).mono ?_
                rintro r wz ⟨rfl, hE⟩
                go_wp2
                go_ret
                exact ⟨rfl, HB.out.trans (Ext.trans EX.out hE)⟩
              | true =>
                have k2 := K.out rfl
                go_wp2_with fail
                refine (fawake_any _ (HT.out.below EX.out)).mono ?_
                rintro r wz ⟨rfl, hE⟩
                go_wp2
                go_ret
                exact ⟨rfl, HB.out.trans (Ext.trans EX.out hE)⟩
            · skip
              go_wp2_with fail
              refine (fawake_any _ (HT.out.below EX.out)).mono ?_
              rintro r wz ⟨rfl, hE⟩
              go_wp2
              go_ret
              exact ⟨rfl, HB.out.trans (Ext.trans EX.out hE)⟩

theorem fmonotone_int (ab an : Bool) (ao : Option Addr) (ak ac : Nat) (ae : Int) (bb bn : Bool) (bo : Option Addr) (bk bc : Nat) (be : Int) (f g h mode : Int) (f0 : 0 ≤ f) (f1 : f < 18446744073709551616) (g0 : 0 ≤ g) (g1 : g < 18446744073709551616) (h0 : 0 ≤ h) (h1 : h < 18446744073709551616) (w : World) (ha : RawD w ab an ao ak ac ae) (hb : RawD w bb bn bo bk bc be) (hT : Table w) :
    Calls Tryd.prog 4 #[.agg #[.bool ab, .bool an, .slice ao ak ac, .int .i64 ae], .agg #[.bool bb, .bool bn, .slice bo bk bc, .int .i64 be], .int .u64 f, .int .u64 g, .int .u64 h, .int .i64 mode] w fun e w' => e = .returned (.bool true) ∧ Ext w w' := by
  obtain ⟨x, rfl⟩ := Int.eq_ofNat_of_zero_le f0
  obtain ⟨y, rfl⟩ := Int.eq_ofNat_of_zero_le g0
  obtain ⟨z, rfl⟩ := Int.eq_ofNat_of_zero_le h0
  exact fmonotone_any ab an ao ak ac ae bb bn bo bk bc be x y z mode (by omega) (by omega) (by omega) w ha hb hT
end Go.Proofs.YtijbdfcenbekmaaDoor
