/- DyadRoot returns true, from what its callees do. -/
import Derived.Test.YthakjcdchaimpaaDoorCDRootA
import Derived.Test.YthakjcdchaimpaaDoorCDRootMath
import Derived.Test.YthakjcdchaimpaaDoorGk
namespace Go.Proofs.YthakjcdchaimpaaDoor
open Go.RowKit

theorem slim_abs {d : Dy} (h : Slim d) : Slim (dabs d) ∧ 0 ≤ dm (dabs d) := by
  obtain ⟨h1, N, h2, h3⟩ := h
  cases d with
  | none => obtain ⟨m, e, h4, _⟩ := h2; cases h4
  | some p => exact ⟨⟨by show blen ((p.1.natAbs : Int)).natAbs ≤ 640; rw [Int.natAbs_natCast]; exact h1, N.natAbs, h2.abs, by rw [Int.natAbs_natCast]; exact h3⟩, Int.natCast_nonneg _⟩
theorem dabs_ne {d : Dy} (h : d ≠ none) : dabs d ≠ none := by
  cases d with
  | none => exact absurd rfl h
  | some p => intro h2; cases h2
theorem slim_rootsq {d : Dy} (h : Slim d) : dsqrt (dmul d d) 700 0 = dabs d := by
  obtain ⟨m, e, rfl, hn, hr⟩ := slim_range h
  exact root_sq hn h (by rcases hr with ⟨_, h⟩ | ⟨_, h, _⟩ <;> omega) (by rcases hr with ⟨_, h⟩ | ⟨_, _, h⟩ <;> omega)
theorem dsqrt_neg {d : Dy} {p : Int} (mode : Int) (h : dm d < 0) : dsqrt d p mode = none := by
  cases d with
  | none => rfl
  | some q =>
    have h1 : q.1 < 0 := h
    show (if 1 ≤ p ∧ p ≤ 4096 ∧ 0 ≤ q.1 then _ else none) = none
    rw [if_neg (by omega)]

set_option maxRecDepth 100000 in
set_option maxHeartbeats 20000000 in
theorem droot_any (db dn : Bool) (dO : Option Addr) (dk dc : Nat) (de i : Int) (w : World) (hd : RawD w db dn dO dk dc de) (hT : Table w) :
    Calls Tryd.prog 3 #[.agg #[.bool db, .bool dn, .slice dO dk dc, .int .i64 de], .int .i64 i] w fun e w' => e = .returned (.bool true) ∧ Ext w w' := by
  go_enter Tryd.func3, Tryd.ntmps3
  go_upto_region 1 with fail
  obtain ⟨W, hW, hB, hx, hz⟩ := dbox_new w db dn dO dk dc de
  rw [← hW]
  clear hW
  have hd : RawD W db dn dO dk dc de := ⟨hd.1, hd.2.1, fun h => by obtain ⟨zs, hs⟩ := hd.2.2 h; exact ⟨zs, hs.below hB⟩⟩
  have HT := Lib.hid (hT.below hB)
  have HB := Lib.hid (show Ext w W from hB)
  have EX := Lib.hid (Ext.refl W)
  clear hB hT hz
  generalize w.heap.size = B at *
  have HC := Lib.hid (show ∀ wx, Ext W wx → (wx.cell? ⟨B, 0, none⟩ = some (.bool db) ∧ wx.cell? ⟨B, 1, none⟩ = some (.bool dn) ∧ wx.cell? ⟨B, 2, none⟩ = some (.slice dO dk dc) ∧ wx.cell? ⟨B, 3, none⟩ = some (.int .i64 de)) from fun wx h => ⟨(hx.ext h).c0, (hx.ext h).c1, (hx.ext h).c2, (hx.ext h).c3⟩)
  have HBX := Lib.hid hx.lt
  clear hx
  obtain ⟨d0, d1, d2, d3⟩ := HC.out W (Ext.refl _)
  cases sa : slimSays dk de 20 2000 with
  | false =>
    have CA := Lib.hid (fun w => dslim_at db dn dO dk dc de w false sa)
    clear sa hd
    go_wp2_with fail
    refine (CA.out _).mono ?_
    rintro e w1 ⟨rfl, hE⟩
    clear d0 d1 d2 d3
    have EX := Lib.hid (Ext.trans EX.out hE)
    clear hE
    go_wp2_with fail
    refine (dawake_any _ (HT.out.below EX.out)).mono ?_
    rintro e wz ⟨rfl, hE⟩
    go_wp2
    go_ret
    exact ⟨rfl, HB.out.trans (Ext.trans EX.out hE)⟩
  | true =>
    have CA := Lib.hid (fun w => dslim_at db dn dO dk dc de w true sa)
    obtain ⟨d, hda, hqa⟩ := hd.slim sa
    have HDA := Lib.hid (fun wx (h : Ext W wx) => hda.ext h)
    clear sa hd hda
    go_wp2_with fail
    refine (CA.out _).mono ?_
    rintro e w1 ⟨rfl, hE⟩
    clear d0 d1 d2 d3
    have EX := Lib.hid (Ext.trans EX.out hE)
    clear hE
    obtain ⟨d0, d1, d2, d3⟩ := HC.out _ EX.out
    cases va : d.isSome with
    | false =>
      have CV := Lib.hid (fun wx (h : Ext W wx) => refDValid_at (HDA.out wx h) (HT.out.below h) false va)
      clear va hqa
      go_wp2_with fail
      refine (CV.out _ EX.out).mono ?_
      rintro e w3 ⟨rfl, hE⟩
      clear d0 d1 d2 d3
      have EX := Lib.hid (Ext.trans EX.out hE)
      clear hE
      go_wp2_with fail
      refine (dawake_any _ (HT.out.below EX.out)).mono ?_
      rintro e wz ⟨rfl, hE⟩
      go_wp2
      go_ret
      exact ⟨rfl, HB.out.trans (Ext.trans EX.out hE)⟩
    | true =>
      have CV := Lib.hid (fun wx (h : Ext W wx) => refDValid_at (HDA.out wx h) (HT.out.below h) true va)
      have VA : d ≠ none := by rintro rfl; cases va
      have SA := Lib.hid (hqa VA)
      have VA := Lib.hid VA
      have CAB := Lib.hid (fun wx (h : Ext W wx) => dabs_any _ _ wx (HDA.out wx h).dg (HT.out.below h))
      clear va hqa
      go_wp2_with fail
      refine (CV.out _ EX.out).mono ?_
      rintro e w3 ⟨rfl, hE⟩
      clear d0 d1 d2 d3
      have EX := Lib.hid (Ext.trans EX.out hE)
      clear hE
      obtain ⟨d0, d1, d2, d3⟩ := HC.out _ EX.out
      go_wp2_with fail
      refine (place_any i 80 _ (by omega) (by omega)).mono ?_
      rintro e w5 ⟨j, hj, rfl, rfl⟩
      obtain ⟨pr, hpr⟩ : ∃ pr : Int, 1 + (j : Int) = pr := ⟨_, rfl⟩
      have hp1 : 1 ≤ pr := by omega
      have hp2 : pr ≤ 80 := by omega
      have HPR := Lib.hid hpr
      clear hj
      go_upto_region 4 with fail
      clear hpr
      obtain ⟨SB0, SB1⟩ := slim_abs SA.out
      obtain ⟨x, y, RI⟩ := root_is SB0 SB1 hp1 hp2
      have RSQ := Lib.hid (slim_rootsq SA.out)
      clear SB0 SB1
      have RI := Lib.hid RI
      go_wp2_with fail
      refine (CAB.out _ EX.out).mono ?_
      rintro e w4 ⟨av, rfl, hav, hE⟩
      clear d0 d1 d2 d3
      have EX := Lib.hid (Ext.trans EX.out hE)
      clear hE
      obtain ⟨ab, an, ao, ak, ac, ae, rfl⟩ := hav.parts
      go_upto_region 5 with fail
      obtain ⟨V4, hV, hv4, x5, hz5⟩ := dbox_new w4 ab an ao ak ac ae
      rw [← hV]
      clear hV
      have EX := Lib.hid (Ext.trans EX.out hv4)
      have hav := hav.ext hv4
      clear hv4 hz5
      generalize w4.heap.size = g5 at *
      have hst : DSt V4 V4 [⟨.agg #[.bool ab, .bool an, .slice ao ak ac, .int .i64 ae], dabs d, true⟩, ⟨.agg #[.bool db, .bool dn, .slice dO dk dc, .int .i64 de], d, false⟩] := ⟨Ext.refl _, HT.out.below EX.out, fun p hp => by
        simp only [List.mem_cons, List.not_mem_nil, or_false] at hp
        rcases hp with rfl | rfl
        · exact dok_dn hav
        · exact dok_dg (HDA.out _ EX.out).dg⟩
      have std := hst.drew
      have HCD := Lib.hid (fun wx (h : Ext V4 wx) => HC.out wx (Ext.trans EX.out h))
      have hcells : ∀ wx, Ext V4 wx → (wx.cell? ⟨g5, 0, none⟩ = some (.bool ab) ∧ wx.cell? ⟨g5, 1, none⟩ = some (.bool an) ∧ wx.cell? ⟨g5, 2, none⟩ = some (.slice ao ak ac) ∧ wx.cell? ⟨g5, 3, none⟩ = some (.int .i64 ae)) := fun wx h => ⟨(x5.ext h).c0, (x5.ext h).c1, (x5.ext h).c2, (x5.ext h).c3⟩
      have HC := Lib.hid hcells
      have hBw : g5 < V4.heap.size := x5.lt
      have hpr8 : pr ≤ 800 := by omega
      have BL := Lib.hid SA.out.1
      have HEX := Lib.hid (HB.out.trans EX.out)
      clear hcells x5 hav EX HB HT CA CV CAB HDA HBX
      obtain ⟨a0, a1, a2, a3⟩ := HC.out V4 (Ext.refl _)
      have TAG1 := Lib.hid trivial
      go_cut [6, 7] from 27 (fun p q wx => ∃ g h lb ln lo lk lc le ub un uo uk uc ue, p = .pointer (some ⟨g, 0, none⟩) ∧ q = .pointer (some ⟨h, 0, none⟩) ∧
        DBox wx g lb ln lo lk lc le ∧ DBox wx h ub un uo uk uc ue ∧ DSt V4 wx [⟨.agg #[.bool ub, .bool un, .slice uo uk uc, .int .i64 ue], dsqrt (dabs d) pr 2, true⟩, ⟨.agg #[.bool lb, .bool ln, .slice lo lk lc, .int .i64 le], dsqrt (dabs d) pr 1, true⟩, ⟨.agg #[.bool ab, .bool an, .slice ao ak ac, .int .i64 ae], dabs d, true⟩, ⟨.agg #[.bool db, .bool dn, .slice dO dk dc, .int .i64 de], d, false⟩])
      case first => exact droot_r5 (by with_reducible assumption) (by with_reducible assumption) HC hst std hBw hpr8
      case rest =>
        obtain ⟨g, h, lb, ln, lo, lk, lc, le, ub, un, uo, uk, uc, ue, rfl, rfl, xl, xu, stc⟩ := hcut
        obtain ⟨V, hV⟩ : ∃ V, V = wc := ⟨wc, rfl⟩
        subst hV
        generalize dsqrt (dabs d) pr 1 = DL at *
        generalize dsqrt (dabs d) pr 2 = DU at *
        have HCC := Lib.hid (show ∀ wx, Ext V wx → (wx.cell? ⟨g5, 0, none⟩ = some (.bool ab) ∧ wx.cell? ⟨g5, 1, none⟩ = some (.bool an) ∧ wx.cell? ⟨g5, 2, none⟩ = some (.slice ao ak ac) ∧ wx.cell? ⟨g5, 3, none⟩ = some (.int .i64 ae)) ∧ (wx.cell? ⟨g, 0, none⟩ = some (.bool lb) ∧ wx.cell? ⟨g, 1, none⟩ = some (.bool ln) ∧ wx.cell? ⟨g, 2, none⟩ = some (.slice lo lk lc) ∧ wx.cell? ⟨g, 3, none⟩ = some (.int .i64 le)) ∧ (wx.cell? ⟨h, 0, none⟩ = some (.bool ub) ∧ wx.cell? ⟨h, 1, none⟩ = some (.bool un) ∧ wx.cell? ⟨h, 2, none⟩ = some (.slice uo uk uc) ∧ wx.cell? ⟨h, 3, none⟩ = some (.int .i64 ue)) ∧ (wx.cell? ⟨B, 0, none⟩ = some (.bool db) ∧ wx.cell? ⟨B, 1, none⟩ = some (.bool dn) ∧ wx.cell? ⟨B, 2, none⟩ = some (.slice dO dk dc) ∧ wx.cell? ⟨B, 3, none⟩ = some (.int .i64 de)) from fun wx hh => ⟨HC.out wx (Ext.trans stc.ext hh), ⟨(xl.ext hh).c0, (xl.ext hh).c1, (xl.ext hh).c2, (xl.ext hh).c3⟩, ⟨(xu.ext hh).c0, (xu.ext hh).c1, (xu.ext hh).c2, (xu.ext hh).c3⟩, HCD.out wx (Ext.trans stc.ext hh)⟩)
        have HST := Lib.hid (show DSt V V [⟨.agg #[.bool ub, .bool un, .slice uo uk uc, .int .i64 ue], DU, true⟩, ⟨.agg #[.bool lb, .bool ln, .slice lo lk lc, .int .i64 le], DL, true⟩, ⟨.agg #[.bool ab, .bool an, .slice ao ak ac, .int .i64 ae], dabs d, true⟩, ⟨.agg #[.bool db, .bool dn, .slice dO dk dc, .int .i64 de], d, false⟩] from stc.self)
        have HEX := Lib.hid (HEX.out.trans stc.ext)
        clear TAG1 stc std hst HC HCD xl xu a0 a1 a2 a3 hBw
        obtain ⟨⟨a0, a1, a2, a3⟩, ⟨l0, l1, l2, l3⟩, ⟨u0, u1, u2, u3⟩, d0, d1, d2, d3⟩ := HCC.out V (Ext.refl _)
        have EX := Lib.hid (Ext.refl V)
        have xle := RI.out.xle
        have yle := RI.out.yle
        go_upto_region 6 with fail
        have st0 : DSt V V.drew [⟨.agg #[.bool ub, .bool un, .slice uo uk uc, .int .i64 ue], DU, true⟩, ⟨.agg #[.bool lb, .bool ln, .slice lo lk lc, .int .i64 le], DL, true⟩, ⟨.agg #[.bool ab, .bool an, .slice ao ak ac, .int .i64 ae], dabs d, true⟩, ⟨.agg #[.bool db, .bool dn, .slice dO dk dc, .int .i64 de], d, false⟩] := DSt.drew (HST.out.step EX.out)
        have TAG1 := Lib.hid trivial
        go_cut [8, 9] from 33 (fun p q wx => p = .int .i64 x ∧ q = .bool true ∧ Ext V wx)
        case first =>
          go_region_held3 (fun wx => (wx.cell? ⟨g5, 0, none⟩ = some (.bool ab) ∧ wx.cell? ⟨g5, 1, none⟩ = some (.bool an) ∧ wx.cell? ⟨g5, 2, none⟩ = some (.slice ao ak ac) ∧ wx.cell? ⟨g5, 3, none⟩ = some (.int .i64 ae)) ∧ (wx.cell? ⟨g, 0, none⟩ = some (.bool lb) ∧ wx.cell? ⟨g, 1, none⟩ = some (.bool ln) ∧ wx.cell? ⟨g, 2, none⟩ = some (.slice lo lk lc) ∧ wx.cell? ⟨g, 3, none⟩ = some (.int .i64 le)) ∧ (wx.cell? ⟨h, 0, none⟩ = some (.bool ub) ∧ wx.cell? ⟨h, 1, none⟩ = some (.bool un) ∧ wx.cell? ⟨h, 2, none⟩ = some (.slice uo uk uc) ∧ wx.cell? ⟨h, 3, none⟩ = some (.int .i64 ue)) ∧ (wx.cell? ⟨B, 0, none⟩ = some (.bool db) ∧ wx.cell? ⟨B, 1, none⟩ = some (.bool dn) ∧ wx.cell? ⟨B, 2, none⟩ = some (.slice dO dk dc) ∧ wx.cell? ⟨B, 3, none⟩ = some (.int .i64 de)))
            (first | exact HCC.out _ (DSt.ext (by with_reducible assumption)))
            (first
              | (go_at_call 12; clear TAG1; refine (dE (W := V) (by with_reducible assumption) (fun W' hh => dmul_bag hh (by repeat (first | exact List.Mem.head _ | refine List.Mem.tail _ ?_)) (by repeat (first | exact List.Mem.head _ | refine List.Mem.tail _ ?_)) (Or.inl (by have := RI.out.lob; omega)))).mono ?_; rintro e wn ⟨rb, rn, ro, rk, rc, re, rfl, hE1, stn⟩; clear st0)
              | (go_at_call 11; refine (dcmp_bag stn (List.Mem.head _) (by repeat (first | exact List.Mem.head _ | refine List.Mem.tail _ ?_)) x RI.out.lom (dabs_ne VA.out) RI.out.cx).mono ?_; rintro e wk ⟨rfl, stk⟩; clear stn))
          all_goals
            go_wp2
            go_meet
          all_goals
            exact ⟨rfl, rfl, DSt.ext (by with_reducible assumption)⟩
        case rest =>
          obtain ⟨rfl, rfl, hE⟩ := hcut
          have EX := Lib.hid hE
          clear hE st0 TAG1 a0 a1 a2 a3 l0 l1 l2 l3 u0 u1 u2 u3 d0 d1 d2 d3
          obtain ⟨⟨a0, a1, a2, a3⟩, ⟨l0, l1, l2, l3⟩, ⟨u0, u1, u2, u3⟩, d0, d1, d2, d3⟩ := HCC.out _ EX.out
          go_upto_region 7 with fail
          have st0 : DSt V wc.drew [⟨.agg #[.bool ub, .bool un, .slice uo uk uc, .int .i64 ue], DU, true⟩, ⟨.agg #[.bool lb, .bool ln, .slice lo lk lc, .int .i64 le], DL, true⟩, ⟨.agg #[.bool ab, .bool an, .slice ao ak ac, .int .i64 ae], dabs d, true⟩, ⟨.agg #[.bool db, .bool dn, .slice dO dk dc, .int .i64 de], d, false⟩] := DSt.drew (HST.out.step EX.out)
          have TAG1 := Lib.hid trivial
          go_cut [10, 11] from 41 (fun p q wx => p = .int .i64 y ∧ q = .bool true ∧ Ext V wx)
          case first =>
            go_region_held3 (fun wx => (wx.cell? ⟨g5, 0, none⟩ = some (.bool ab) ∧ wx.cell? ⟨g5, 1, none⟩ = some (.bool an) ∧ wx.cell? ⟨g5, 2, none⟩ = some (.slice ao ak ac) ∧ wx.cell? ⟨g5, 3, none⟩ = some (.int .i64 ae)) ∧ (wx.cell? ⟨g, 0, none⟩ = some (.bool lb) ∧ wx.cell? ⟨g, 1, none⟩ = some (.bool ln) ∧ wx.cell? ⟨g, 2, none⟩ = some (.slice lo lk lc) ∧ wx.cell? ⟨g, 3, none⟩ = some (.int .i64 le)) ∧ (wx.cell? ⟨h, 0, none⟩ = some (.bool ub) ∧ wx.cell? ⟨h, 1, none⟩ = some (.bool un) ∧ wx.cell? ⟨h, 2, none⟩ = some (.slice uo uk uc) ∧ wx.cell? ⟨h, 3, none⟩ = some (.int .i64 ue)) ∧ (wx.cell? ⟨B, 0, none⟩ = some (.bool db) ∧ wx.cell? ⟨B, 1, none⟩ = some (.bool dn) ∧ wx.cell? ⟨B, 2, none⟩ = some (.slice dO dk dc) ∧ wx.cell? ⟨B, 3, none⟩ = some (.int .i64 de)))
              (first | exact HCC.out _ (DSt.ext (by with_reducible assumption)))
              (first
                | (go_at_call 12; clear TAG1; refine (dE (W := V) (by with_reducible assumption) (fun W' hh => dmul_bag hh (by repeat (first | exact List.Mem.head _ | refine List.Mem.tail _ ?_)) (by repeat (first | exact List.Mem.head _ | refine List.Mem.tail _ ?_)) (Or.inl (by have := RI.out.hib; omega)))).mono ?_; rintro e wn ⟨rb, rn, ro, rk, rc, re, rfl, hE1, stn⟩; clear st0)
                | (go_at_call 11; refine (dcmp_bag stn (by repeat (first | exact List.Mem.head _ | refine List.Mem.tail _ ?_)) (List.Mem.head _) y (dabs_ne VA.out) RI.out.him RI.out.cy).mono ?_; rintro e wk ⟨rfl, stk⟩; clear stn))
            all_goals
              go_wp2
              go_meet
            all_goals
              exact ⟨rfl, rfl, DSt.ext (by with_reducible assumption)⟩
          case rest =>
            obtain ⟨rfl, rfl, hE⟩ := hcut
            have EX := Lib.hid hE
            clear hE st0 TAG1 a0 a1 a2 a3 l0 l1 l2 l3 u0 u1 u2 u3 d0 d1 d2 d3
            obtain ⟨⟨a0, a1, a2, a3⟩, ⟨l0, l1, l2, l3⟩, ⟨u0, u1, u2, u3⟩, d0, d1, d2, d3⟩ := HCC.out _ EX.out
            by_cases hx0 : x = 0
            · have q1 : (x == 0) = true := by rw [hx0]; rfl
              have SM := Lib.hid (RI.out.same.2 hx0)
              clear hx0
              go_wp2_with fail
              refine (dsame_bag (HST.out.step EX.out) (by repeat (first | exact List.Mem.head _ | refine List.Mem.tail _ ?_)) (by repeat (first | exact List.Mem.head _ | refine List.Mem.tail _ ?_)) true (decide_eq_true SM.out)).mono ?_
              rintro e v3 ⟨rfl, hst⟩
              have EX := Lib.hid hst.ext
              clear hst
              clear a0 a1 a2 a3 l0 l1 l2 l3 u0 u1 u2 u3 d0 d1 d2 d3
              obtain ⟨⟨a0, a1, a2, a3⟩, ⟨l0, l1, l2, l3⟩, ⟨u0, u1, u2, u3⟩, d0, d1, d2, d3⟩ := HCC.out _ EX.out
              go_wp2_with fail
              refine (dmul_bag (HST.out.step EX.out) (by repeat (first | exact List.Mem.head _ | refine List.Mem.tail _ ?_)) (by repeat (first | exact List.Mem.head _ | refine List.Mem.tail _ ?_)) (Or.inl (by have := BL.out; omega))).mono ?_
              rintro e z1 ⟨mv, rfl, hst⟩
              go_wp2_with fail
              refine (dsqrt_bag hst (List.Mem.head _) 700 0 (by omega)).mono ?_
              rintro e z2 ⟨ev, rfl, hst⟩
              obtain ⟨eb, en, eo, ek, ec, ee, rfl⟩ := (hst.dn (List.Mem.head _)).parts
              have EX := Lib.hid hst.ext
              go_upto_region 11 with fail
              clear a0 a1 a2 a3 l0 l1 l2 l3 u0 u1 u2 u3 d0 d1 d2 d3
              obtain ⟨V9, hV, hv9, x9, hz9⟩ := dbox_new z2 eb en eo ek ec ee
              rw [← hV]
              clear hV
              have EX := Lib.hid (Ext.trans EX.out hv9)
              have hst := hst.step hv9
              have hBg : z2.heap.size < V9.heap.size := by omega
              clear hv9 hz9
              generalize z2.heap.size = g9 at *
              obtain ⟨⟨a0, a1, a2, a3⟩, ⟨l0, l1, l2, l3⟩, ⟨u0, u1, u2, u3⟩, d0, d1, d2, d3⟩ := HCC.out _ EX.out
              have t0 := x9.c0
              have t1 := x9.c1
              have t2 := x9.c2
              have t3 := x9.c3
              go_wp2_with fail
              refine (dsame_bag hst (List.Mem.head _) (by repeat (first | exact List.Mem.head _ | refine List.Mem.tail _ ?_)) true (decide_eq_true RSQ.out)).mono ?_
              rintro e z3 ⟨rfl, hst⟩
              clear a0 a1 a2 a3 l0 l1 l2 l3 u0 u1 u2 u3 d0 d1 d2 d3 t0 t1 t2 t3 x9
              have EX := Lib.hid hst.ext
              obtain ⟨⟨a0, a1, a2, a3⟩, ⟨l0, l1, l2, l3⟩, ⟨u0, u1, u2, u3⟩, d0, d1, d2, d3⟩ := HCC.out _ EX.out
              obtain ⟨sg, hsg⟩ : ∃ sg, sgn3 (dm d) 0 = sg := ⟨_, rfl⟩
              have HSG := Lib.hid hsg
              by_cases hneg : 0 ≤ sg
              · go_wp2_with fail
                refine (dsign_bag hst (by repeat (first | exact List.Mem.head _ | refine List.Mem.tail _ ?_)) sg HSG.out).mono ?_
                rintro e z4 ⟨rfl, hst⟩
                go_wp2_with fail
                refine (dawake_bag hst).mono ?_
                rintro e z5 ⟨rfl, hst⟩
                go_wp2
                go_ret
                exact ⟨rfl, HEX.out.trans hst.ext⟩
              · have hnn : sg < 0 := by omega
                have hdn : dsqrt d pr 0 = none := dsqrt_neg 0 (by rw [← hsg] at hnn; unfold sgn3 at hnn; split at hnn; omega; split at hnn <;> omega)
                have HDN := Lib.hid hdn
                clear hdn hsg
                go_wp2_with fail
                refine (dsign_bag hst (by repeat (first | exact List.Mem.head _ | refine List.Mem.tail _ ?_)) sg HSG.out).mono ?_
                rintro e z4 ⟨rfl, hst⟩
                clear a0 a1 a2 a3 l0 l1 l2 l3 u0 u1 u2 u3 d0 d1 d2 d3
                have EX := Lib.hid hst.ext
                obtain ⟨⟨a0, a1, a2, a3⟩, ⟨l0, l1, l2, l3⟩, ⟨u0, u1, u2, u3⟩, d0, d1, d2, d3⟩ := HCC.out _ EX.out
                go_wp2_with fail
                refine (dsqrt_bag hst (by repeat (first | exact List.Mem.head _ | refine List.Mem.tail _ ?_)) pr 0 hpr8).mono ?_
                rintro e z5 ⟨nv, rfl, hst⟩
                obtain ⟨n1, n2, n3, n4, n5, rfl, hfield⟩ := none_parts (hst.dn0 HDN.out)
                go_wp2_with fail
                refine (dawake_bag hst).mono ?_
                rintro e z6 ⟨rfl, hst⟩
                go_wp2
                go_ret
                exact ⟨rfl, HEX.out.trans hst.ext⟩
            · have q1 : (x == 0) = false := beq_eq_false_iff_ne.2 hx0
              have SM := Lib.hid (fun hh => hx0 (RI.out.same.1 hh))
              clear hx0
              go_wp2_with fail
              refine (dsame_bag (HST.out.step EX.out) (by repeat (first | exact List.Mem.head _ | refine List.Mem.tail _ ?_)) (by repeat (first | exact List.Mem.head _ | refine List.Mem.tail _ ?_)) false (decide_eq_false SM.out)).mono ?_
              rintro e v3 ⟨rfl, hst⟩
              have EX := Lib.hid hst.ext
              clear hst
              clear a0 a1 a2 a3 l0 l1 l2 l3 u0 u1 u2 u3 d0 d1 d2 d3
              obtain ⟨⟨a0, a1, a2, a3⟩, ⟨l0, l1, l2, l3⟩, ⟨u0, u1, u2, u3⟩, d0, d1, d2, d3⟩ := HCC.out _ EX.out
              go_wp2_with fail
              refine (dmul_bag (HST.out.step EX.out) (by repeat (first | exact List.Mem.head _ | refine List.Mem.tail _ ?_)) (by repeat (first | exact List.Mem.head _ | refine List.Mem.tail _ ?_)) (Or.inl (by have := BL.out; omega))).mono ?_
              rintro e z1 ⟨mv, rfl, hst⟩
              go_wp2_with fail
              refine (dsqrt_bag hst (List.Mem.head _) 700 0 (by omega)).mono ?_
              rintro e z2 ⟨ev, rfl, hst⟩
              obtain ⟨eb, en, eo, ek, ec, ee, rfl⟩ := (hst.dn (List.Mem.head _)).parts
              have EX := Lib.hid hst.ext
              go_upto_region 11 with fail
              clear a0 a1 a2 a3 l0 l1 l2 l3 u0 u1 u2 u3 d0 d1 d2 d3
              obtain ⟨V9, hV, hv9, x9, hz9⟩ := dbox_new z2 eb en eo ek ec ee
              rw [← hV]
              clear hV
              have EX := Lib.hid (Ext.trans EX.out hv9)
              have hst := hst.step hv9
              have hBg : z2.heap.size < V9.heap.size := by omega
              clear hv9 hz9
              generalize z2.heap.size = g9 at *
              obtain ⟨⟨a0, a1, a2, a3⟩, ⟨l0, l1, l2, l3⟩, ⟨u0, u1, u2, u3⟩, d0, d1, d2, d3⟩ := HCC.out _ EX.out
              have t0 := x9.c0
              have t1 := x9.c1
              have t2 := x9.c2
              have t3 := x9.c3
              go_wp2_with fail
              refine (dsame_bag hst (List.Mem.head _) (by repeat (first | exact List.Mem.head _ | refine List.Mem.tail _ ?_)) true (decide_eq_true RSQ.out)).mono ?_
              rintro e z3 ⟨rfl, hst⟩
              clear a0 a1 a2 a3 l0 l1 l2 l3 u0 u1 u2 u3 d0 d1 d2 d3 t0 t1 t2 t3 x9
              have EX := Lib.hid hst.ext
              obtain ⟨⟨a0, a1, a2, a3⟩, ⟨l0, l1, l2, l3⟩, ⟨u0, u1, u2, u3⟩, d0, d1, d2, d3⟩ := HCC.out _ EX.out
              obtain ⟨sg, hsg⟩ : ∃ sg, sgn3 (dm d) 0 = sg := ⟨_, rfl⟩
              have HSG := Lib.hid hsg
              by_cases hneg : 0 ≤ sg
              · go_wp2_with fail
                refine (dsign_bag hst (by repeat (first | exact List.Mem.head _ | refine List.Mem.tail _ ?_)) sg HSG.out).mono ?_
                rintro e z4 ⟨rfl, hst⟩
                go_wp2_with fail
                refine (dawake_bag hst).mono ?_
                rintro e z5 ⟨rfl, hst⟩
                go_wp2
                go_ret
                exact ⟨rfl, HEX.out.trans hst.ext⟩
              · have hnn : sg < 0 := by omega
                have hdn : dsqrt d pr 0 = none := dsqrt_neg 0 (by rw [← hsg] at hnn; unfold sgn3 at hnn; split at hnn; omega; split at hnn <;> omega)
                have HDN := Lib.hid hdn
                clear hdn hsg
                go_wp2_with fail
                refine (dsign_bag hst (by repeat (first | exact List.Mem.head _ | refine List.Mem.tail _ ?_)) sg HSG.out).mono ?_
                rintro e z4 ⟨rfl, hst⟩
                clear a0 a1 a2 a3 l0 l1 l2 l3 u0 u1 u2 u3 d0 d1 d2 d3
                have EX := Lib.hid hst.ext
                obtain ⟨⟨a0, a1, a2, a3⟩, ⟨l0, l1, l2, l3⟩, ⟨u0, u1, u2, u3⟩, d0, d1, d2, d3⟩ := HCC.out _ EX.out
                go_wp2_with fail
                refine (dsqrt_bag hst (by repeat (first | exact List.Mem.head _ | refine List.Mem.tail _ ?_)) pr 0 hpr8).mono ?_
                rintro e z5 ⟨nv, rfl, hst⟩
                obtain ⟨n1, n2, n3, n4, n5, rfl, hfield⟩ := none_parts (hst.dn0 HDN.out)
                go_wp2_with fail
                refine (dawake_bag hst).mono ?_
                rintro e z6 ⟨rfl, hst⟩
                go_wp2
                go_ret
                exact ⟨rfl, HEX.out.trans hst.ext⟩
end Go.Proofs.YthakjcdchaimpaaDoor
