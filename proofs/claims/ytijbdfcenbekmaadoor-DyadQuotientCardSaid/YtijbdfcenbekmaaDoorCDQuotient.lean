/- DyadQuotient returns true, from what its callees do. -/
import Derived.Test.YtijbdfcenbekmaaDoorCDQuoA
import Derived.Test.YtijbdfcenbekmaaDoorCDQuoEncl
import Derived.Test.YtijbdfcenbekmaaDoorCDBits
namespace Go.Proofs.YtijbdfcenbekmaaDoor
open Go.RowKit

theorem boxes_two_raw {w W : World} {bb nb : Bool} {ao : Option Addr} {n ca : Nat} {f : Int} (ha : RawD w bb nb ao n ca f) (hB : Below w.heap.size w W) : RawD W bb nb ao n ca f := ⟨ha.1, ha.2.1, fun h => by obtain ⟨zs, hs⟩ := ha.2.2 h; exact ⟨zs, hs.below hB⟩⟩

set_option maxRecDepth 100000 in
set_option maxHeartbeats 20000000 in
theorem dquotient_any (ab an : Bool) (ao : Option Addr) (ak ac : Nat) (ae : Int) (bb bn : Bool) (bo : Option Addr) (bk bc : Nat) (be i : Int) (w : World) (ha : RawD w ab an ao ak ac ae) (hb : RawD w bb bn bo bk bc be) (hT : Table w) :
    Calls Tryd.prog 3 #[.agg #[.bool ab, .bool an, .slice ao ak ac, .int .i64 ae], .agg #[.bool bb, .bool bn, .slice bo bk bc, .int .i64 be], .int .i64 i] w fun e w' => e = .returned (.bool true) ∧ Ext w w' := by
  go_enter Tryd.func3, Tryd.ntmps3
  go_upto_region 1 with fail
  obtain ⟨W, hW, hB, hx, hy, hz⟩ := boxes_two_d w ab an ao ak ac ae bb bn bo bk bc be
  rw [← hW]
  clear hW
  have ha := boxes_two_raw ha hB
  have hb := boxes_two_raw hb hB
  have HT := Lib.hid (hT.below hB)
  have HB := Lib.hid (show Ext w W from hB)
  have EX := Lib.hid (Ext.refl W)
  clear hB hT
  generalize w.heap.size = B at *
  have hcells : ∀ wx, Ext W wx → (wx.cell? ⟨B, 0, none⟩ = some (.bool ab) ∧ wx.cell? ⟨B, 1, none⟩ = some (.bool an) ∧ wx.cell? ⟨B, 2, none⟩ = some (.slice ao ak ac) ∧ wx.cell? ⟨B, 3, none⟩ = some (.int .i64 ae)) ∧ (wx.cell? ⟨(B + 1), 0, none⟩ = some (.bool bb) ∧ wx.cell? ⟨(B + 1), 1, none⟩ = some (.bool bn) ∧ wx.cell? ⟨(B + 1), 2, none⟩ = some (.slice bo bk bc) ∧ wx.cell? ⟨(B + 1), 3, none⟩ = some (.int .i64 be)) := fun wx h =>
    ⟨⟨(hx.ext h).c0, (hx.ext h).c1, (hx.ext h).c2, (hx.ext h).c3⟩, ⟨(hy.ext h).c0, (hy.ext h).c1, (hy.ext h).c2, (hy.ext h).c3⟩⟩
  have HC := Lib.hid hcells; clear hcells
  obtain ⟨⟨a0, a1, a2, a3⟩, b0, b1, b2, b3⟩ := HC.out W (Ext.refl _)
  clear hx hy
  cases sa : slimSays ak ae 20 2000 with
  | false =>
    have CA := Lib.hid (fun w => dslim_at ab an ao ak ac ae w false sa)
    clear sa ha hb
    go_wp2_with fail
    refine (CA.out _).mono ?_
    rintro e w1 ⟨rfl, hE⟩
    clear a0 a1 a2 a3 b0 b1 b2 b3
    have EX := Lib.hid (Ext.trans EX.out hE)
    clear hE
    go_wp2_with fail
    refine (dawake_any _ (HT.out.below EX.out)).mono ?_
    rintro e wz ⟨rfl, hE⟩
    go_wp2
    go_ret
    exact ⟨rfl, HB.out.trans (Ext.trans EX.out hE)⟩
  | true =>
    have CA := Lib.hid (fun w => dslim_at ab an ao ak ac ae w true sa)
    obtain ⟨d, hda, hqa⟩ := ha.slim sa
    have HDA := Lib.hid (fun wx (h : Ext W wx) => hda.ext h)
    have QA := Lib.hid hqa
    clear sa ha hda hqa
    cases sb : slimSays bk be 20 2000 with
    | false =>
      have CB := Lib.hid (fun w => dslim_at bb bn bo bk bc be w false sb)
      clear sb hb
      go_wp2_with fail
      refine (CA.out _).mono ?_
      rintro e w1 ⟨rfl, hE⟩
      clear a0 a1 a2 a3 b0 b1 b2 b3
      have EX := Lib.hid (Ext.trans EX.out hE)
      clear hE
      obtain ⟨⟨a0, a1, a2, a3⟩, b0, b1, b2, b3⟩ := HC.out _ EX.out
      go_wp2_with fail
      refine (CB.out _).mono ?_
      rintro e w2 ⟨rfl, hE⟩
      clear a0 a1 a2 a3 b0 b1 b2 b3
      have EX := Lib.hid (Ext.trans EX.out hE)
      clear hE
      go_wp2_with fail
      refine (dawake_any _ (HT.out.below EX.out)).mono ?_
      rintro e wz ⟨rfl, hE⟩
      go_wp2
      go_ret
      exact ⟨rfl, HB.out.trans (Ext.trans EX.out hE)⟩
    | true =>
      have CB := Lib.hid (fun w => dslim_at bb bn bo bk bc be w true sb)
      obtain ⟨d', hdb, hqb⟩ := hb.slim sb
      have HDB := Lib.hid (fun wx (h : Ext W wx) => hdb.ext h)
      have QB := Lib.hid hqb
      clear sb hb hdb hqb
      go_wp2_with fail
      refine (CA.out _).mono ?_
      rintro e w1 ⟨rfl, hE⟩
      clear a0 a1 a2 a3 b0 b1 b2 b3
      have EX := Lib.hid (Ext.trans EX.out hE)
      clear hE
      obtain ⟨⟨a0, a1, a2, a3⟩, b0, b1, b2, b3⟩ := HC.out _ EX.out
      go_wp2_with fail
      refine (CB.out _).mono ?_
      rintro e w2 ⟨rfl, hE⟩
      clear a0 a1 a2 a3 b0 b1 b2 b3
      have EX := Lib.hid (Ext.trans EX.out hE)
      clear hE
      obtain ⟨⟨a0, a1, a2, a3⟩, b0, b1, b2, b3⟩ := HC.out _ EX.out
      cases va : d.isSome with
      | false =>
        have CV := Lib.hid (fun wx (h : Ext W wx) => refDValid_at (HDA.out wx h) (HT.out.below h) false va)
        clear va
        go_wp2_with fail
        refine (CV.out _ EX.out).mono ?_
        rintro e w3 ⟨rfl, hE⟩
        clear a0 a1 a2 a3 b0 b1 b2 b3
        have EX := Lib.hid (Ext.trans EX.out hE)
        clear hE
        go_wp2_with fail
        refine (dawake_any _ (HT.out.below EX.out)).mono ?_
        rintro e wz ⟨rfl, hE⟩
        go_wp2
        go_ret
        exact ⟨rfl, HB.out.trans (Ext.trans EX.out hE)⟩
      | true =>
        have CV := Lib.hid (fun wx (h : Ext W wx) => refDValid_at (HDA.out wx h) (HT.out.below h) true va)
        have VA : d ≠ none := by rintro rfl; cases va
        have SA := Lib.hid (QA.out VA)
        have VA := Lib.hid VA
        have CSG := Lib.hid (fun wx (h : Ext W wx) => refDSign_any _ _ wx (HDB.out wx h) (HT.out.below h))
        clear va
        go_wp2_with fail
        refine (CV.out _ EX.out).mono ?_
        rintro e w3 ⟨rfl, hE⟩
        clear a0 a1 a2 a3 b0 b1 b2 b3
        have EX := Lib.hid (Ext.trans EX.out hE)
        clear hE
        obtain ⟨⟨a0, a1, a2, a3⟩, b0, b1, b2, b3⟩ := HC.out _ EX.out
        by_cases hpos : 0 < dm d'
        · have v0 : sgn3 (dm d') 0 = 1 := by unfold sgn3; rw [if_neg (by omega), if_pos hpos]
          have VB : d' ≠ none := by rintro rfl; exact absurd hpos (by decide)
          have SB' := Lib.hid (QB.out VB)
          have VB := Lib.hid VB
          have HPOS := Lib.hid hpos
          rw [v0] at CSG
          clear v0 hpos
          go_wp2_with fail
          refine (CSG.out _ EX.out).mono ?_
          rintro e w4 ⟨rfl, hE⟩
          clear a0 a1 a2 a3 b0 b1 b2 b3
          have EX := Lib.hid (Ext.trans EX.out hE)
          clear hE
          obtain ⟨⟨a0, a1, a2, a3⟩, b0, b1, b2, b3⟩ := HC.out _ EX.out
          go_wp2_with fail
          refine (place_any i 80 _ (by omega) (by omega)).mono ?_
          rintro e w5 ⟨j, hj, rfl, rfl⟩
          obtain ⟨pr, hpr⟩ : ∃ pr : Int, 1 + (j : Int) = pr := ⟨_, rfl⟩
          have hp1 : 1 ≤ pr := by omega
          have hp2 : pr ≤ 80 := by omega
          go_upto_region 4 with fail
          have HPR := Lib.hid hpr; clear hpr hj
          obtain ⟨x, y, QI⟩ := quo_is SA.out SB'.out HPOS.out hp1 hp2
          have hst : DSt w4 w4 [⟨.agg #[.bool ab, .bool an, .slice ao ak ac, .int .i64 ae], d, false⟩, ⟨.agg #[.bool bb, .bool bn, .slice bo bk bc, .int .i64 be], d', false⟩] := ⟨Ext.refl _, HT.out.below EX.out, fun p hp => by
            simp only [List.mem_cons, List.not_mem_nil, or_false] at hp
            rcases hp with rfl | rfl
            · exact dok_dg (HDA.out _ EX.out).dg
            · exact dok_dg (HDB.out _ EX.out).dg⟩
          have std := hst.drew
          have HC := Lib.hid (fun wx (h : Ext w4 wx) => HC.out wx (Ext.trans EX.out h))
          have hw0 := Below.size EX.out
          have hBw2 : B + 1 < w4.heap.size := by omega
          have BL := Lib.hid SB'.out.1
          have QI := Lib.hid QI
          have HEX := Lib.hid (HB.out.trans EX.out)
          clear hz hw0 EX HB HT CA CB CV CSG HDA HDB QA QB
          have TAG1 := Lib.hid trivial
          go_cut [7, 8] from 35 (fun p q wx => ∃ g h lb ln lo lk lc le ub un uo uk uc ue, p = .pointer (some ⟨g, 0, none⟩) ∧ q = .pointer (some ⟨h, 0, none⟩) ∧
            DBox wx g lb ln lo lk lc le ∧ DBox wx h ub un uo uk uc ue ∧ DSt w4 wx [⟨.agg #[.bool ub, .bool un, .slice uo uk uc, .int .i64 ue], dquo d d' pr 2, true⟩, ⟨.agg #[.bool lb, .bool ln, .slice lo lk lc, .int .i64 le], dquo d d' pr 1, true⟩, ⟨.agg #[.bool ab, .bool an, .slice ao ak ac, .int .i64 ae], d, false⟩, ⟨.agg #[.bool bb, .bool bn, .slice bo bk bc, .int .i64 be], d', false⟩])
          case first => exact dquo_r4 (by with_reducible assumption) (by with_reducible assumption) HC hst std hBw2
          case rest =>
            obtain ⟨g, h, lb, ln, lo, lk, lc, le, ub, un, uo, uk, uc, ue, rfl, rfl, xl, xu, stc⟩ := hcut
            obtain ⟨V, hV⟩ : ∃ V, V = wc := ⟨wc, rfl⟩
            subst hV
            generalize dquo d d' pr 1 = DL at *
            generalize dquo d d' pr 2 = DU at *
            have HCC := Lib.hid (show ∀ wx, Ext V wx → (wx.cell? ⟨B, 0, none⟩ = some (.bool ab) ∧ wx.cell? ⟨B, 1, none⟩ = some (.bool an) ∧ wx.cell? ⟨B, 2, none⟩ = some (.slice ao ak ac) ∧ wx.cell? ⟨B, 3, none⟩ = some (.int .i64 ae)) ∧ (wx.cell? ⟨(B + 1), 0, none⟩ = some (.bool bb) ∧ wx.cell? ⟨(B + 1), 1, none⟩ = some (.bool bn) ∧ wx.cell? ⟨(B + 1), 2, none⟩ = some (.slice bo bk bc) ∧ wx.cell? ⟨(B + 1), 3, none⟩ = some (.int .i64 be)) ∧ (wx.cell? ⟨g, 0, none⟩ = some (.bool lb) ∧ wx.cell? ⟨g, 1, none⟩ = some (.bool ln) ∧ wx.cell? ⟨g, 2, none⟩ = some (.slice lo lk lc) ∧ wx.cell? ⟨g, 3, none⟩ = some (.int .i64 le)) ∧ (wx.cell? ⟨h, 0, none⟩ = some (.bool ub) ∧ wx.cell? ⟨h, 1, none⟩ = some (.bool un) ∧ wx.cell? ⟨h, 2, none⟩ = some (.slice uo uk uc) ∧ wx.cell? ⟨h, 3, none⟩ = some (.int .i64 ue)) from fun wx hh => ⟨(HC.out wx (Ext.trans stc.ext hh)).1, (HC.out wx (Ext.trans stc.ext hh)).2, ⟨(xl.ext hh).c0, (xl.ext hh).c1, (xl.ext hh).c2, (xl.ext hh).c3⟩, (xu.ext hh).c0, (xu.ext hh).c1, (xu.ext hh).c2, (xu.ext hh).c3⟩)
            have HST := Lib.hid (show DSt V V [⟨.agg #[.bool ub, .bool un, .slice uo uk uc, .int .i64 ue], DU, true⟩, ⟨.agg #[.bool lb, .bool ln, .slice lo lk lc, .int .i64 le], DL, true⟩, ⟨.agg #[.bool ab, .bool an, .slice ao ak ac, .int .i64 ae], d, false⟩, ⟨.agg #[.bool bb, .bool bn, .slice bo bk bc, .int .i64 be], d', false⟩] from stc.self)
            have HEX := Lib.hid (HEX.out.trans stc.ext)
            clear TAG1 stc std hst HC xl xu a0 a1 a2 a3 b0 b1 b2 b3 hBw2
            obtain ⟨⟨a0, a1, a2, a3⟩, ⟨b0, b1, b2, b3⟩, ⟨l0, l1, l2, l3⟩, u0, u1, u2, u3⟩ := HCC.out V (Ext.refl _)
            have EX := Lib.hid (Ext.refl V)
            have xle := QI.out.xle
            have yle := QI.out.yle
            go_upto_region 5 with fail
            have st0 : DSt V V.drew [⟨.agg #[.bool ub, .bool un, .slice uo uk uc, .int .i64 ue], DU, true⟩, ⟨.agg #[.bool lb, .bool ln, .slice lo lk lc, .int .i64 le], DL, true⟩, ⟨.agg #[.bool ab, .bool an, .slice ao ak ac, .int .i64 ae], d, false⟩, ⟨.agg #[.bool bb, .bool bn, .slice bo bk bc, .int .i64 be], d', false⟩] := DSt.drew (HST.out.step EX.out)
            have TAG1 := Lib.hid trivial
            go_cut [9, 10] from 43 (fun p q wx => p = .int .i64 x ∧ q = .bool true ∧ Ext V wx)
            case first =>
              go_region_held3 (fun wx => (wx.cell? ⟨B, 0, none⟩ = some (.bool ab) ∧ wx.cell? ⟨B, 1, none⟩ = some (.bool an) ∧ wx.cell? ⟨B, 2, none⟩ = some (.slice ao ak ac) ∧ wx.cell? ⟨B, 3, none⟩ = some (.int .i64 ae)) ∧ (wx.cell? ⟨(B + 1), 0, none⟩ = some (.bool bb) ∧ wx.cell? ⟨(B + 1), 1, none⟩ = some (.bool bn) ∧ wx.cell? ⟨(B + 1), 2, none⟩ = some (.slice bo bk bc) ∧ wx.cell? ⟨(B + 1), 3, none⟩ = some (.int .i64 be)) ∧ (wx.cell? ⟨g, 0, none⟩ = some (.bool lb) ∧ wx.cell? ⟨g, 1, none⟩ = some (.bool ln) ∧ wx.cell? ⟨g, 2, none⟩ = some (.slice lo lk lc) ∧ wx.cell? ⟨g, 3, none⟩ = some (.int .i64 le)) ∧ (wx.cell? ⟨h, 0, none⟩ = some (.bool ub) ∧ wx.cell? ⟨h, 1, none⟩ = some (.bool un) ∧ wx.cell? ⟨h, 2, none⟩ = some (.slice uo uk uc) ∧ wx.cell? ⟨h, 3, none⟩ = some (.int .i64 ue)))
                (first | exact HCC.out _ (DSt.ext (by with_reducible assumption)))
                (first
                  | (go_at_call 14; clear TAG1; refine (dE (W := V) (by with_reducible assumption) (fun W' hh => dmul_bag hh (by repeat (first | exact List.Mem.head _ | refine List.Mem.tail _ ?_)) (by repeat (first | exact List.Mem.head _ | refine List.Mem.tail _ ?_)) (Or.inr (by have := BL.out; omega)))).mono ?_; rintro e wn ⟨rb, rn, ro, rk, rc, re, rfl, hE1, stn⟩; clear st0)
                  | (go_at_call 13; refine (dcmp_bag stn (List.Mem.head _) (by repeat (first | exact List.Mem.head _ | refine List.Mem.tail _ ?_)) x QI.out.lom VA.out QI.out.cx).mono ?_; rintro e wk ⟨rfl, stk⟩; clear stn))
              all_goals
                go_wp2
                go_meet
              all_goals
                exact ⟨rfl, rfl, DSt.ext (by with_reducible assumption)⟩
            case rest =>
              obtain ⟨rfl, rfl, hE⟩ := hcut
              have EX := Lib.hid hE
              clear hE st0 TAG1 a0 a1 a2 a3 b0 b1 b2 b3 l0 l1 l2 l3 u0 u1 u2 u3
              obtain ⟨⟨a0, a1, a2, a3⟩, ⟨b0, b1, b2, b3⟩, ⟨l0, l1, l2, l3⟩, u0, u1, u2, u3⟩ := HCC.out _ EX.out
              go_upto_region 6 with fail
              have st0 : DSt V wc.drew [⟨.agg #[.bool ub, .bool un, .slice uo uk uc, .int .i64 ue], DU, true⟩, ⟨.agg #[.bool lb, .bool ln, .slice lo lk lc, .int .i64 le], DL, true⟩, ⟨.agg #[.bool ab, .bool an, .slice ao ak ac, .int .i64 ae], d, false⟩, ⟨.agg #[.bool bb, .bool bn, .slice bo bk bc, .int .i64 be], d', false⟩] := DSt.drew (HST.out.step EX.out)
              have TAG1 := Lib.hid trivial
              go_cut [11, 12] from 51 (fun p q wx => p = .int .i64 y ∧ q = .bool true ∧ Ext V wx)
              case first =>
                go_region_held3 (fun wx => (wx.cell? ⟨B, 0, none⟩ = some (.bool ab) ∧ wx.cell? ⟨B, 1, none⟩ = some (.bool an) ∧ wx.cell? ⟨B, 2, none⟩ = some (.slice ao ak ac) ∧ wx.cell? ⟨B, 3, none⟩ = some (.int .i64 ae)) ∧ (wx.cell? ⟨(B + 1), 0, none⟩ = some (.bool bb) ∧ wx.cell? ⟨(B + 1), 1, none⟩ = some (.bool bn) ∧ wx.cell? ⟨(B + 1), 2, none⟩ = some (.slice bo bk bc) ∧ wx.cell? ⟨(B + 1), 3, none⟩ = some (.int .i64 be)) ∧ (wx.cell? ⟨g, 0, none⟩ = some (.bool lb) ∧ wx.cell? ⟨g, 1, none⟩ = some (.bool ln) ∧ wx.cell? ⟨g, 2, none⟩ = some (.slice lo lk lc) ∧ wx.cell? ⟨g, 3, none⟩ = some (.int .i64 le)) ∧ (wx.cell? ⟨h, 0, none⟩ = some (.bool ub) ∧ wx.cell? ⟨h, 1, none⟩ = some (.bool un) ∧ wx.cell? ⟨h, 2, none⟩ = some (.slice uo uk uc) ∧ wx.cell? ⟨h, 3, none⟩ = some (.int .i64 ue)))
                  (first | exact HCC.out _ (DSt.ext (by with_reducible assumption)))
                  (first
                    | (go_at_call 14; clear TAG1; refine (dE (W := V) (by with_reducible assumption) (fun W' hh => dmul_bag hh (by repeat (first | exact List.Mem.head _ | refine List.Mem.tail _ ?_)) (by repeat (first | exact List.Mem.head _ | refine List.Mem.tail _ ?_)) (Or.inr (by have := BL.out; omega)))).mono ?_; rintro e wn ⟨rb, rn, ro, rk, rc, re, rfl, hE1, stn⟩; clear st0)
                    | (go_at_call 13; refine (dcmp_bag stn (by repeat (first | exact List.Mem.head _ | refine List.Mem.tail _ ?_)) (List.Mem.head _) y VA.out QI.out.him QI.out.cy).mono ?_; rintro e wk ⟨rfl, stk⟩; clear stn))
                all_goals
                  go_wp2
                  go_meet
                all_goals
                  exact ⟨rfl, rfl, DSt.ext (by with_reducible assumption)⟩
              case rest =>
                obtain ⟨rfl, rfl, hE⟩ := hcut
                have EX := Lib.hid hE
                clear hE st0 TAG1 a0 a1 a2 a3 b0 b1 b2 b3 l0 l1 l2 l3 u0 u1 u2 u3
                obtain ⟨⟨a0, a1, a2, a3⟩, ⟨b0, b1, b2, b3⟩, ⟨l0, l1, l2, l3⟩, u0, u1, u2, u3⟩ := HCC.out _ EX.out
                obtain ⟨s1, hs1⟩ : ∃ s : Int, (blen (dm DL).natAbs : Int) = s := ⟨_, rfl⟩
                obtain ⟨s2, hs2⟩ : ∃ s : Int, (blen (dm DU).natAbs : Int) = s := ⟨_, rfl⟩
                have n1 : ¬ pr < s1 := by have := QI.out.lob; omega
                have n2 : ¬ pr < s2 := by have := QI.out.hib; omega
                have S1 := Lib.hid hs1
                have S2 := Lib.hid hs2
                clear hs1 hs2
                go_wp2_with fail
                refine (dbits_bag (HST.out.step EX.out) (by repeat (first | exact List.Mem.head _ | refine List.Mem.tail _ ?_)) s1 S1.out).mono ?_
                rintro e v1 ⟨rfl, hst⟩
                have EX := Lib.hid hst.ext
                clear hst
                clear a0 a1 a2 a3 b0 b1 b2 b3 l0 l1 l2 l3 u0 u1 u2 u3
                obtain ⟨⟨a0, a1, a2, a3⟩, ⟨b0, b1, b2, b3⟩, ⟨l0, l1, l2, l3⟩, u0, u1, u2, u3⟩ := HCC.out _ EX.out
                go_wp2_with fail
                refine (dbits_bag (HST.out.step EX.out) (by repeat (first | exact List.Mem.head _ | refine List.Mem.tail _ ?_)) s2 S2.out).mono ?_
                rintro e v2 ⟨rfl, hst⟩
                have EX := Lib.hid hst.ext
                clear hst
                clear a0 a1 a2 a3 b0 b1 b2 b3 l0 l1 l2 l3 u0 u1 u2 u3
                obtain ⟨⟨a0, a1, a2, a3⟩, ⟨b0, b1, b2, b3⟩, ⟨l0, l1, l2, l3⟩, u0, u1, u2, u3⟩ := HCC.out _ EX.out
                by_cases hx0 : x = 0
                · have hy0 := QI.out.both.1 hx0
                  have q1 : (x == 0) = true := by rw [hx0]; rfl
                  have q2 : (y == 0) = true := by rw [hy0]; rfl
                  have SM := Lib.hid (QI.out.same.2 hx0)
                  clear hx0 hy0
                  go_wp2_with fail
                  refine (dsame_bag (HST.out.step EX.out) (by repeat (first | exact List.Mem.head _ | refine List.Mem.tail _ ?_)) (by repeat (first | exact List.Mem.head _ | refine List.Mem.tail _ ?_)) true (decide_eq_true SM.out)).mono ?_
                  rintro e v3 ⟨rfl, hst⟩
                  go_wp2_with fail
                  refine (dawake_bag hst).mono ?_
                  rintro e v4 ⟨rfl, hst⟩
                  go_wp2
                  go_ret
                  exact ⟨rfl, HEX.out.trans hst.ext⟩
                · have hy0 : y ≠ 0 := fun hh => hx0 (QI.out.both.2 hh)
                  have q1 : (x == 0) = false := beq_eq_false_iff_ne.2 hx0
                  have q2 : (y == 0) = false := beq_eq_false_iff_ne.2 hy0
                  have SM := Lib.hid (fun hh => hx0 (QI.out.same.1 hh))
                  clear hx0 hy0
                  go_wp2_with fail
                  refine (dsame_bag (HST.out.step EX.out) (by repeat (first | exact List.Mem.head _ | refine List.Mem.tail _ ?_)) (by repeat (first | exact List.Mem.head _ | refine List.Mem.tail _ ?_)) false (decide_eq_false SM.out)).mono ?_
                  rintro e v3 ⟨rfl, hst⟩
                  go_wp2_with fail
                  refine (dawake_bag hst).mono ?_
                  rintro e v4 ⟨rfl, hst⟩
                  go_wp2
                  go_ret
                  exact ⟨rfl, HEX.out.trans hst.ext⟩
        · have v0 : sgn3 (dm d') 0 ≤ 0 := by unfold sgn3; split <;> (try split) <;> omega
          clear hpos
          go_wp2_with fail
          refine (CSG.out _ EX.out).mono ?_
          rintro e w4 ⟨rfl, hE⟩
          clear a0 a1 a2 a3 b0 b1 b2 b3
          have EX := Lib.hid (Ext.trans EX.out hE)
          clear hE
          go_wp2_with fail
          refine (dawake_any _ (HT.out.below EX.out)).mono ?_
          rintro e wz ⟨rfl, hE⟩
          go_wp2
          go_ret
          exact ⟨rfl, HB.out.trans (Ext.trans EX.out hE)⟩
end Go.Proofs.YtijbdfcenbekmaaDoor
