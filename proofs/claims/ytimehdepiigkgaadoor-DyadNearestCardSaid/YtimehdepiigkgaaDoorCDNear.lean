/- DyadNearest returns true, from what its callees do. -/
import Derived.Test.YtimehdepiigkgaaDoorCDPair
import Derived.Test.YtimehdepiigkgaaDoorCDRing
import Derived.Test.YtimehdepiigkgaaDoorCDNearMath
import Derived.Test.YtimehdepiigkgaaDoorCDNearB
import Derived.Test.YtimehdepiigkgaaDoorCDNearC
namespace Go.Proofs.YtimehdepiigkgaaDoor
open Go.RowKit

set_option maxRecDepth 100000 in
set_option maxHeartbeats 2000000 in
theorem dbits_any (u : Value) (d : Dy) (w : World) (hu : Dn w u d) :
    Calls Tryd.prog 24 #[u] w fun e w' => e = .returned (.int .i64 (blen (dm d).natAbs)) ∧ Ext w w' := by
  have hnd := nd_blen hu.1
  obtain ⟨ub, un, uo, uk, uc, uf, rfl⟩ := hu.parts
  obtain ⟨-, -, hm⟩ := hu.get
  have hms : uk ≤ 4096 := by
    rw [← hm.sl.len]
    exact limbs_of_blen (by omega)
  clear hu
  go_enter Tryd.func24, Tryd.ntmps24
  go_upto_region 1 with fail
  obtain ⟨W, hW, hB, hbx, hz⟩ := dbox_new w ub un uo uk uc uf
  rw [← hW]
  clear hW
  have hm := hm.below hB
  have HB := Lib.hid (show Ext w W from hB)
  clear hB
  generalize w.heap.size = B at *
  have k1 := hbx.c1
  have k2 := hbx.c2
  go_wp2_with fail
  refine (refBitLen_any _ _ _ _ _ _ (hm.bg (by omega))).mono ?_
  rintro e w1 ⟨rfl, hw1⟩
  go_wp2
  go_ret
  exact ⟨rfl, HB.out.trans hw1⟩

theorem dbits_bag {W w : World} {L : List DEnt} {u : Value} {d : Dy} (h : DSt W w L) (h1 : ⟨u, d, true⟩ ∈ L) (s : Int) (hs : (blen (dm d).natAbs : Int) = s) :
    Calls Tryd.prog 24 #[u] w fun e w' => e = .returned (.int .i64 s) ∧ DSt W w' L :=
  (dbits_any u d w (h.dn h1)).mono fun _ _ ⟨he, hw⟩ => ⟨by rw [he, hs], h.step hw⟩

theorem refDNorm_bag {W w : World} {L : List DEnt} {u : Value} {d : Dy} (h : DSt W w L) (hu : Dl w u d) :
    Calls Tryd.prog 25 #[u] w fun e w' => ∃ r, e = .returned r ∧ DSt W w' (⟨r, d, true⟩ :: L) :=
  (refDNorm_any u d w hu h.tab).mono fun _ _ ⟨r, he, hr, hw⟩ => ⟨r, he, h.push hw (dok_dn hr)⟩

set_option maxRecDepth 100000 in
set_option maxHeartbeats 20000000 in
theorem dnear_any (ab an : Bool) (ao : Option Addr) (ak ac : Nat) (ae i : Int) (w : World) (ha : RawD w ab an ao ak ac ae) (hT : Table w) :
    Calls Tryd.prog 5 #[.agg #[.bool ab, .bool an, .slice ao ak ac, .int .i64 ae], .int .i64 i] w fun e w' => e = .returned (.bool true) ∧ Ext w w' := by
  go_enter Tryd.func5, Tryd.ntmps5
  go_upto_region 1 with fail
  obtain ⟨W, hW, hB, hx, hz⟩ := dbox_new w ab an ao ak ac ae
  rw [← hW]
  clear hW
  have ha : RawD W ab an ao ak ac ae := ⟨ha.1, ha.2.1, fun h => by obtain ⟨zs, hs⟩ := ha.2.2 h; exact ⟨zs, hs.below hB⟩⟩
  have HTW := Lib.hid (hT.below hB)
  have HB := Lib.hid (show Ext w W from hB)
  clear hB hT
  generalize w.heap.size = B at *
  have hcells : ∀ wx, Ext W wx → (wx.cell? ⟨B, 0, none⟩ = some (.bool ab) ∧ wx.cell? ⟨B, 1, none⟩ = some (.bool an) ∧ wx.cell? ⟨B, 2, none⟩ = some (.slice ao ak ac) ∧ wx.cell? ⟨B, 3, none⟩ = some (.int .i64 ae)) := fun wx h =>
    ⟨(hx.ext h).c0, (hx.ext h).c1, (hx.ext h).c2, (hx.ext h).c3⟩
  have HC := Lib.hid hcells; clear hcells
  obtain ⟨a0, a1, a2, a3⟩ := HC.out W (Ext.refl _)
  by_cases sa : slimSays ak ae 20 2000 = true
  · have SA := Lib.hid sa
    go_wp2_with fail
    refine (dslim_at ab an ao ak ac ae _ true sa).mono ?_
    rintro e w1 ⟨rfl, hw1⟩
    clear a0 a1 a2 a3 sa
    obtain ⟨a0, a1, a2, a3⟩ := HC.out w1 hw1
    obtain ⟨d, D, Q⟩ := ha.slim SA.out
    clear ha
    have Q := Lib.hid Q
    have hst : DSt W w1 [⟨.agg #[.bool ab, .bool an, .slice ao ak ac, .int .i64 ae], d, false⟩] :=
      ⟨hw1, HTW.out.below hw1, fun p hp => by
        simp only [List.mem_cons, List.not_mem_nil, or_false] at hp
        rcases hp with rfl
        exact dok_dg (D.ext hw1).dg⟩
    have D := Lib.hid (show ∀ wx, Ext W wx → Dl wx (.agg #[.bool ab, .bool an, .slice ao ak ac, .int .i64 ae]) d from fun wx h => D.ext h)
    by_cases va : d = none
    · have VA := Lib.hid va
      clear va
      go_wp2_with fail
      refine (refDValid_at (D.out _ hst.ext) hst.tab false (by rw [VA.out]; rfl)).mono ?_
      rintro e w4 ⟨rfl, hw4⟩
      have hst := hst.step hw4
      go_wp2_with fail
      refine (dawake_bag hst).mono ?_
      rintro e w5 ⟨rfl, hst⟩
      go_wp2
      go_ret
      exact ⟨rfl, HB.out.trans hst.ext⟩
    · have VA := Lib.hid va
      clear va
      go_wp2_with fail
      refine (refDValid_at (D.out _ hst.ext) hst.tab true (by cases d with | none => exact absurd rfl VA.out | some p => rfl)).mono ?_
      rintro e w4 ⟨rfl, hw4⟩
      have hst0 := hst.step hw4
      clear a0 a1 a2 a3 hw4 hw1 hst
      obtain ⟨a0, a1, a2, a3⟩ := HC.out _ hst0.ext
      go_wp2_with fail
      refine (place_any i 80 _ (by omega) (by omega)).mono ?_
      rintro e w5 ⟨j, hj, rfl, rfl⟩
      obtain ⟨pr, hpr⟩ : ∃ pr : Int, 1 + (j : Int) = pr := ⟨_, rfl⟩
      have hp1 : 1 ≤ pr := by omega
      have hp2 : pr ≤ 80 := by omega
      go_upto_region 4 with fail
      have HPR := Lib.hid hpr; clear hpr hj
      have hBw : B < w4.heap.size := by have := size_of_ext hst0.ext; omega
      have hst : DSt w4 w4 _ := hst0.self
      have std := hst.drew
      have EX := Lib.hid (HB.out.trans hst0.ext)
      have hx4 := hx.ext hst0.ext
      have D := Lib.hid (show ∀ wx, Ext w4 wx → Dl wx (.agg #[.bool ab, .bool an, .slice ao ak ac, .int .i64 ae]) d from fun wx h => D.out wx (hst0.ext.trans h))
      have hnd : Nd d := by
        obtain ⟨_, N, h1, _⟩ := Q.out VA.out
        exact h1.nd
      have HND := Lib.hid hnd
      clear hst0 HB HC hx hz HTW hnd
      have hcells : ∀ wx, Ext w4 wx → (wx.cell? ⟨B, 0, none⟩ = some (.bool ab) ∧ wx.cell? ⟨B, 1, none⟩ = some (.bool an) ∧ wx.cell? ⟨B, 2, none⟩ = some (.slice ao ak ac) ∧ wx.cell? ⟨B, 3, none⟩ = some (.int .i64 ae)) := fun wx h =>
        ⟨(hx4.ext h).c0, (hx4.ext h).c1, (hx4.ext h).c2, (hx4.ext h).c3⟩
      have HC := Lib.hid hcells; clear hcells
      have TAG1 := Lib.hid trivial
      go_cut [5, 6] from 35 (fun p q wx => ∃ g h lb ln lo lk lc le ub un uo uk uc ue, p = .pointer (some ⟨g, 0, none⟩) ∧ q = .pointer (some ⟨h, 0, none⟩) ∧
        DBox wx g lb ln lo lk lc le ∧ DBox wx h ub un uo uk uc ue ∧ DSt w4 wx [⟨.agg #[.bool ub, .bool un, .slice uo uk uc, .int .i64 ue], dround d pr 2, true⟩, ⟨.agg #[.bool lb, .bool ln, .slice lo lk lc, .int .i64 le], dround d pr 1, true⟩, ⟨.agg #[.bool ab, .bool an, .slice ao ak ac, .int .i64 ae], d, false⟩])
      case first => exact dnear_r4 (by with_reducible assumption) (by with_reducible assumption) HC hst std hBw
      case rest =>
        obtain ⟨g, h, lb, ln, lo, lk, lc, le, ub, un, uo, uk, uc, ue, rfl, rfl, xl, xu, stc⟩ := hcut
        have hx5 := hx4.ext stc.ext
        have EX := Lib.hid (EX.out.trans stc.ext)
        have D := Lib.hid (show ∀ wx, Ext wc wx → Dl wx (.agg #[.bool ab, .bool an, .slice ao ak ac, .int .i64 ae]) d from fun wx h => D.out wx (stc.ext.trans h))
        have hst := stc.self
        have hBw : B < wc.heap.size := hx5.lt
        clear TAG1 stc std HC hx4 a0 a1 a2 a3
        have hcells : ∀ wx, Ext wc wx → (wx.cell? ⟨B, 0, none⟩ = some (.bool ab) ∧ wx.cell? ⟨B, 1, none⟩ = some (.bool an) ∧ wx.cell? ⟨B, 2, none⟩ = some (.slice ao ak ac) ∧ wx.cell? ⟨B, 3, none⟩ = some (.int .i64 ae)) := fun wx h =>
          ⟨(hx5.ext h).c0, (hx5.ext h).c1, (hx5.ext h).c2, (hx5.ext h).c3⟩
        have HC := Lib.hid hcells; clear hcells
        obtain ⟨a0, a1, a2, a3⟩ := HC.out wc (Ext.refl _)
        go_upto_region 5 with fail
        have std := hst.drew
        have TAG1 := Lib.hid trivial
        go_cut [7, 8] from 41 (fun p q wx => ∃ g h mb mn mo mk mc me rb rn ro rk rc re, p = .pointer (some ⟨g, 0, none⟩) ∧ q = .pointer (some ⟨h, 0, none⟩) ∧
          DBox wx g mb mn mo mk mc me ∧ DBox wx h rb rn ro rk rc re ∧ DSt wc wx [⟨.agg #[.bool rb, .bool rn, .slice ro rk rc, .int .i64 re], dround d pr 3, true⟩, ⟨.agg #[.bool mb, .bool mn, .slice mo mk mc, .int .i64 me], dround d pr 0, true⟩, ⟨.agg #[.bool ub, .bool un, .slice uo uk uc, .int .i64 ue], dround d pr 2, true⟩, ⟨.agg #[.bool lb, .bool ln, .slice lo lk lc, .int .i64 le], dround d pr 1, true⟩, ⟨.agg #[.bool ab, .bool an, .slice ao ak ac, .int .i64 ae], d, false⟩])
        case first => exact dnear_r5 (by with_reducible assumption) (by with_reducible assumption) HC hst std hBw
        case rest =>
          obtain ⟨g2, h2, mb, mn, mo, mk, mc, me, rb, rn, ro, rk, rc, re, rfl, rfl, xm, xr, stc⟩ := hcut
          have xa := hx5.ext stc.ext
          have xl := xl.ext stc.ext
          have xu := xu.ext stc.ext
          have EX := Lib.hid (EX.out.trans stc.ext)
          have D := Lib.hid (show ∀ wx, Ext wc wx → Dl wx (.agg #[.bool ab, .bool an, .slice ao ak ac, .int .i64 ae]) d from fun wx h => D.out wx (stc.ext.trans h))
          have hst := stc.self
          clear TAG1 stc std HC hx5 a0 a1 a2 a3
          have hcells : ∀ wx, Ext wc wx → (wx.cell? ⟨B, 0, none⟩ = some (.bool ab) ∧ wx.cell? ⟨B, 1, none⟩ = some (.bool an) ∧ wx.cell? ⟨B, 2, none⟩ = some (.slice ao ak ac) ∧ wx.cell? ⟨B, 3, none⟩ = some (.int .i64 ae)) ∧ (wx.cell? ⟨g, 0, none⟩ = some (.bool lb) ∧ wx.cell? ⟨g, 1, none⟩ = some (.bool ln) ∧ wx.cell? ⟨g, 2, none⟩ = some (.slice lo lk lc) ∧ wx.cell? ⟨g, 3, none⟩ = some (.int .i64 le)) ∧ (wx.cell? ⟨h, 0, none⟩ = some (.bool ub) ∧ wx.cell? ⟨h, 1, none⟩ = some (.bool un) ∧ wx.cell? ⟨h, 2, none⟩ = some (.slice uo uk uc) ∧ wx.cell? ⟨h, 3, none⟩ = some (.int .i64 ue)) ∧ (wx.cell? ⟨g2, 0, none⟩ = some (.bool mb) ∧ wx.cell? ⟨g2, 1, none⟩ = some (.bool mn) ∧ wx.cell? ⟨g2, 2, none⟩ = some (.slice mo mk mc) ∧ wx.cell? ⟨g2, 3, none⟩ = some (.int .i64 me)) ∧ (wx.cell? ⟨h2, 0, none⟩ = some (.bool rb) ∧ wx.cell? ⟨h2, 1, none⟩ = some (.bool rn) ∧ wx.cell? ⟨h2, 2, none⟩ = some (.slice ro rk rc) ∧ wx.cell? ⟨h2, 3, none⟩ = some (.int .i64 re)) := fun wx h =>
            ⟨⟨(xa.ext h).c0, (xa.ext h).c1, (xa.ext h).c2, (xa.ext h).c3⟩, ⟨(xl.ext h).c0, (xl.ext h).c1, (xl.ext h).c2, (xl.ext h).c3⟩, ⟨(xu.ext h).c0, (xu.ext h).c1, (xu.ext h).c2, (xu.ext h).c3⟩, ⟨(xm.ext h).c0, (xm.ext h).c1, (xm.ext h).c2, (xm.ext h).c3⟩, ⟨(xr.ext h).c0, (xr.ext h).c1, (xr.ext h).c2, (xr.ext h).c3⟩⟩
          have HC := Lib.hid hcells; clear hcells
          obtain ⟨⟨a0, a1, a2, a3⟩, ⟨l0, l1, l2, l3⟩, ⟨u0, u1, u2, u3⟩, ⟨m0, m1, m2, m3⟩, r0, r1, r2, r3⟩ := HC.out wc (Ext.refl _)
          have HX := Lib.hid (And.intro xa (And.intro xl (And.intro xu (And.intro xm xr))))
          clear xa xl xu xm xr
          have SL := Lib.hid (Q.out VA.out)
          have b1 := dround_bits (mode := 1) HND.out hp1 hp2
          have b2 := dround_bits (mode := 2) HND.out hp1 hp2
          have b0 := dround_bits (mode := 0) HND.out hp1 hp2
          by_cases hfew : (blen (dm d).natAbs : Int) ≤ pr
          · have E1 := dround_few (mode := 1) VA.out HND.out hp1 hp2 hfew
            have E2 := dround_few (mode := 2) VA.out HND.out hp1 hp2 hfew
            have E0 := dround_few (mode := 0) VA.out HND.out hp1 hp2 hfew
            have E3 := dround_few (mode := 3) VA.out HND.out hp1 hp2 hfew
            generalize dround d pr 1 = DL at *
            generalize dround d pr 2 = DU at *
            generalize dround d pr 0 = DM at *
            generalize dround d pr 3 = DR at *
            subst E1 E2 E0 E3
            obtain ⟨s1, hs1⟩ : ∃ s : Int, (blen (dm DR).natAbs : Int) = s := ⟨_, rfl⟩
            rw [hs1] at b1 b2 b0 hfew
            have HS := Lib.hid hs1
            clear hs1 b2 b0
            go_wp2_with fail
            refine (dcmp_bag hst (by repeat (first | exact List.Mem.head _ | refine List.Mem.tail _ ?_)) (by repeat (first | exact List.Mem.head _ | refine List.Mem.tail _ ?_)) 0 VA.out VA.out (sgn3_eq rfl)).mono ?_
            rintro e v1 ⟨rfl, hst⟩
            clear a0 a1 a2 a3 l0 l1 l2 l3 u0 u1 u2 u3 m0 m1 m2 m3 r0 r1 r2 r3
            obtain ⟨⟨a0, a1, a2, a3⟩, ⟨l0, l1, l2, l3⟩, ⟨u0, u1, u2, u3⟩, ⟨m0, m1, m2, m3⟩, r0, r1, r2, r3⟩ := HC.out _ hst.ext
            go_wp2_with fail
            refine (dcmp_bag hst (by repeat (first | exact List.Mem.head _ | refine List.Mem.tail _ ?_)) (by repeat (first | exact List.Mem.head _ | refine List.Mem.tail _ ?_)) 0 VA.out VA.out (sgn3_eq rfl)).mono ?_
            rintro e v2 ⟨rfl, hst⟩
            clear a0 a1 a2 a3 l0 l1 l2 l3 u0 u1 u2 u3 m0 m1 m2 m3 r0 r1 r2 r3
            obtain ⟨⟨a0, a1, a2, a3⟩, ⟨l0, l1, l2, l3⟩, ⟨u0, u1, u2, u3⟩, ⟨m0, m1, m2, m3⟩, r0, r1, r2, r3⟩ := HC.out _ hst.ext
            go_wp2_with fail
            refine (dbits_bag hst (by repeat (first | exact List.Mem.head _ | refine List.Mem.tail _ ?_)) s1 HS.out).mono ?_
            rintro e v3 ⟨rfl, hst⟩
            clear a0 a1 a2 a3 l0 l1 l2 l3 u0 u1 u2 u3 m0 m1 m2 m3 r0 r1 r2 r3
            obtain ⟨⟨a0, a1, a2, a3⟩, ⟨l0, l1, l2, l3⟩, ⟨u0, u1, u2, u3⟩, ⟨m0, m1, m2, m3⟩, r0, r1, r2, r3⟩ := HC.out _ hst.ext
            go_wp2_with fail
            refine (dbits_bag hst (by repeat (first | exact List.Mem.head _ | refine List.Mem.tail _ ?_)) s1 HS.out).mono ?_
            rintro e v4 ⟨rfl, hst⟩
            clear a0 a1 a2 a3 l0 l1 l2 l3 u0 u1 u2 u3 m0 m1 m2 m3 r0 r1 r2 r3
            obtain ⟨⟨a0, a1, a2, a3⟩, ⟨l0, l1, l2, l3⟩, ⟨u0, u1, u2, u3⟩, ⟨m0, m1, m2, m3⟩, r0, r1, r2, r3⟩ := HC.out _ hst.ext
            go_wp2_with fail
            refine (dbits_bag hst (by repeat (first | exact List.Mem.head _ | refine List.Mem.tail _ ?_)) s1 HS.out).mono ?_
            rintro e v5 ⟨rfl, hst⟩
            clear a0 a1 a2 a3 l0 l1 l2 l3 u0 u1 u2 u3 m0 m1 m2 m3 r0 r1 r2 r3
            obtain ⟨⟨a0, a1, a2, a3⟩, ⟨l0, l1, l2, l3⟩, ⟨u0, u1, u2, u3⟩, ⟨m0, m1, m2, m3⟩, r0, r1, r2, r3⟩ := HC.out _ hst.ext
            go_wp2_with fail
            refine (refDNorm_bag hst (D.out _ hst.ext)).mono ?_
            rintro e v6 ⟨nv, rfl, hst⟩
            clear a0 a1 a2 a3 l0 l1 l2 l3 u0 u1 u2 u3 m0 m1 m2 m3 r0 r1 r2 r3
            obtain ⟨⟨a0, a1, a2, a3⟩, ⟨l0, l1, l2, l3⟩, ⟨u0, u1, u2, u3⟩, ⟨m0, m1, m2, m3⟩, r0, r1, r2, r3⟩ := HC.out _ hst.ext
            go_wp2_with fail
            refine (dbits_bag hst (List.Mem.head _) s1 HS.out).mono ?_
            rintro e v7 ⟨rfl, hst⟩
            clear a0 a1 a2 a3 l0 l1 l2 l3 u0 u1 u2 u3 m0 m1 m2 m3 r0 r1 r2 r3
            obtain ⟨⟨a0, a1, a2, a3⟩, ⟨l0, l1, l2, l3⟩, ⟨u0, u1, u2, u3⟩, ⟨m0, m1, m2, m3⟩, r0, r1, r2, r3⟩ := HC.out _ hst.ext
            go_wp2_with fail
            refine (dsame_bag hst (by repeat (first | exact List.Mem.head _ | refine List.Mem.tail _ ?_)) (by repeat (first | exact List.Mem.head _ | refine List.Mem.tail _ ?_)) true (decide_eq_true rfl)).mono ?_
            rintro e v8 ⟨rfl, hst⟩
            clear a0 a1 a2 a3 l0 l1 l2 l3 u0 u1 u2 u3 m0 m1 m2 m3 r0 r1 r2 r3
            obtain ⟨⟨a0, a1, a2, a3⟩, ⟨l0, l1, l2, l3⟩, ⟨u0, u1, u2, u3⟩, ⟨m0, m1, m2, m3⟩, r0, r1, r2, r3⟩ := HC.out _ hst.ext
            go_wp2_with fail
            refine (dsame_bag hst (by repeat (first | exact List.Mem.head _ | refine List.Mem.tail _ ?_)) (by repeat (first | exact List.Mem.head _ | refine List.Mem.tail _ ?_)) true (decide_eq_true rfl)).mono ?_
            rintro e v9 ⟨rfl, hst⟩
            clear a0 a1 a2 a3 l0 l1 l2 l3 u0 u1 u2 u3 m0 m1 m2 m3 r0 r1 r2 r3
            obtain ⟨⟨a0, a1, a2, a3⟩, ⟨l0, l1, l2, l3⟩, ⟨u0, u1, u2, u3⟩, ⟨m0, m1, m2, m3⟩, r0, r1, r2, r3⟩ := HC.out _ hst.ext
            go_wp2_with fail
            refine (dsame_bag hst (by repeat (first | exact List.Mem.head _ | refine List.Mem.tail _ ?_)) (by repeat (first | exact List.Mem.head _ | refine List.Mem.tail _ ?_)) true (decide_eq_true rfl)).mono ?_
            rintro e v10 ⟨rfl, hst⟩
            clear a0 a1 a2 a3 l0 l1 l2 l3 u0 u1 u2 u3 m0 m1 m2 m3 r0 r1 r2 r3
            obtain ⟨⟨a0, a1, a2, a3⟩, ⟨l0, l1, l2, l3⟩, ⟨u0, u1, u2, u3⟩, ⟨m0, m1, m2, m3⟩, r0, r1, r2, r3⟩ := HC.out _ hst.ext
            go_wp2_with fail
            refine (dsame_bag hst (by repeat (first | exact List.Mem.head _ | refine List.Mem.tail _ ?_)) (by repeat (first | exact List.Mem.head _ | refine List.Mem.tail _ ?_)) true (decide_eq_true rfl)).mono ?_
            rintro e v11 ⟨rfl, hst⟩
            clear a0 a1 a2 a3 l0 l1 l2 l3 u0 u1 u2 u3 m0 m1 m2 m3 r0 r1 r2 r3
            obtain ⟨⟨a0, a1, a2, a3⟩, ⟨l0, l1, l2, l3⟩, ⟨u0, u1, u2, u3⟩, ⟨m0, m1, m2, m3⟩, r0, r1, r2, r3⟩ := HC.out _ hst.ext
            go_wp2_with fail
            refine (dawake_bag hst).mono ?_
            rintro e v12 ⟨rfl, hst⟩
            go_wp2
            go_ret
            exact ⟨rfl, EX.out.trans hst.ext⟩
          · obtain ⟨c, NB⟩ := near_big SL.out hp1 hp2 (by omega)
            have NB := Lib.hid NB
            have EM : dround d pr 0 = dround d pr 1 ∨ dround d pr 0 = dround d pr 2 := by
              rcases NB.out.choice with h | h | h
              · exact Or.inl h.2
              · exact Or.inr h.2
              · exact h.2
            generalize dround d pr 1 = DL at *
            generalize dround d pr 2 = DU at *
            generalize dround d pr 0 = DM at *
            generalize dround d pr 3 = DR at *
            obtain ⟨s1, hs1⟩ : ∃ s : Int, (blen (dm DL).natAbs : Int) = s := ⟨_, rfl⟩
            obtain ⟨s2, hs2⟩ : ∃ s : Int, (blen (dm DU).natAbs : Int) = s := ⟨_, rfl⟩
            obtain ⟨s3, hs3⟩ : ∃ s : Int, (blen (dm DM).natAbs : Int) = s := ⟨_, rfl⟩
            obtain ⟨s4, hs4⟩ : ∃ s : Int, (blen (dm d).natAbs : Int) = s := ⟨_, rfl⟩
            rw [hs1] at b1
            rw [hs2] at b2
            rw [hs3] at b0
            rw [hs4] at hfew
            have S1 := Lib.hid hs1
            have S2 := Lib.hid hs2
            have S3 := Lib.hid hs3
            have S4 := Lib.hid hs4
            have EM := Lib.hid EM
            clear hs1 hs2 hs3 hs4
            go_wp2_with fail
            refine (dcmp_bag hst (by repeat (first | exact List.Mem.head _ | refine List.Mem.tail _ ?_)) (by repeat (first | exact List.Mem.head _ | refine List.Mem.tail _ ?_)) (-1) NB.out.lo_ne VA.out NB.out.a).mono ?_
            rintro e v1 ⟨rfl, hst⟩
            clear a0 a1 a2 a3 l0 l1 l2 l3 u0 u1 u2 u3 m0 m1 m2 m3 r0 r1 r2 r3
            obtain ⟨⟨a0, a1, a2, a3⟩, ⟨l0, l1, l2, l3⟩, ⟨u0, u1, u2, u3⟩, ⟨m0, m1, m2, m3⟩, r0, r1, r2, r3⟩ := HC.out _ hst.ext
            go_wp2_with fail
            refine (dcmp_bag hst (by repeat (first | exact List.Mem.head _ | refine List.Mem.tail _ ?_)) (by repeat (first | exact List.Mem.head _ | refine List.Mem.tail _ ?_)) (-1) VA.out NB.out.hi_ne NB.out.b).mono ?_
            rintro e v2 ⟨rfl, hst⟩
            clear a0 a1 a2 a3 l0 l1 l2 l3 u0 u1 u2 u3 m0 m1 m2 m3 r0 r1 r2 r3
            obtain ⟨⟨a0, a1, a2, a3⟩, ⟨l0, l1, l2, l3⟩, ⟨u0, u1, u2, u3⟩, ⟨m0, m1, m2, m3⟩, r0, r1, r2, r3⟩ := HC.out _ hst.ext
            go_wp2_with fail
            refine (dbits_bag hst (by repeat (first | exact List.Mem.head _ | refine List.Mem.tail _ ?_)) s1 S1.out).mono ?_
            rintro e v3 ⟨rfl, hst⟩
            clear a0 a1 a2 a3 l0 l1 l2 l3 u0 u1 u2 u3 m0 m1 m2 m3 r0 r1 r2 r3
            obtain ⟨⟨a0, a1, a2, a3⟩, ⟨l0, l1, l2, l3⟩, ⟨u0, u1, u2, u3⟩, ⟨m0, m1, m2, m3⟩, r0, r1, r2, r3⟩ := HC.out _ hst.ext
            go_wp2_with fail
            refine (dbits_bag hst (by repeat (first | exact List.Mem.head _ | refine List.Mem.tail _ ?_)) s2 S2.out).mono ?_
            rintro e v4 ⟨rfl, hst⟩
            clear a0 a1 a2 a3 l0 l1 l2 l3 u0 u1 u2 u3 m0 m1 m2 m3 r0 r1 r2 r3
            obtain ⟨⟨a0, a1, a2, a3⟩, ⟨l0, l1, l2, l3⟩, ⟨u0, u1, u2, u3⟩, ⟨m0, m1, m2, m3⟩, r0, r1, r2, r3⟩ := HC.out _ hst.ext
            go_wp2_with fail
            refine (dbits_bag hst (by repeat (first | exact List.Mem.head _ | refine List.Mem.tail _ ?_)) s3 S3.out).mono ?_
            rintro e v5 ⟨rfl, hst⟩
            clear a0 a1 a2 a3 l0 l1 l2 l3 u0 u1 u2 u3 m0 m1 m2 m3 r0 r1 r2 r3
            obtain ⟨⟨a0, a1, a2, a3⟩, ⟨l0, l1, l2, l3⟩, ⟨u0, u1, u2, u3⟩, ⟨m0, m1, m2, m3⟩, r0, r1, r2, r3⟩ := HC.out _ hst.ext
            go_wp2_with fail
            refine (refDNorm_bag hst (D.out _ hst.ext)).mono ?_
            rintro e v6 ⟨nv, rfl, hst⟩
            clear a0 a1 a2 a3 l0 l1 l2 l3 u0 u1 u2 u3 m0 m1 m2 m3 r0 r1 r2 r3
            obtain ⟨⟨a0, a1, a2, a3⟩, ⟨l0, l1, l2, l3⟩, ⟨u0, u1, u2, u3⟩, ⟨m0, m1, m2, m3⟩, r0, r1, r2, r3⟩ := HC.out _ hst.ext
            go_wp2_with fail
            refine (dbits_bag hst (List.Mem.head _) s4 S4.out).mono ?_
            rintro e v7 ⟨rfl, hst⟩
            clear a0 a1 a2 a3 l0 l1 l2 l3 u0 u1 u2 u3 m0 m1 m2 m3 r0 r1 r2 r3
            go_upto_region 14 with fail
            have EX := Lib.hid (EX.out.trans hst.ext)
            have xa := HX.out.1.ext hst.ext
            have xl := HX.out.2.1.ext hst.ext
            have xu := HX.out.2.2.1.ext hst.ext
            have xm := HX.out.2.2.2.1.ext hst.ext
            have xr := HX.out.2.2.2.2.ext hst.ext
            have HY := Lib.hid (And.intro xa (And.intro xl (And.intro xu (And.intro xm xr))))
            have hst := hst.self
            have std := hst.drew
            have hBa : B < v7.heap.size := xa.lt
            have hBl : g < v7.heap.size := xl.lt
            have hBu : h < v7.heap.size := xu.lt
            clear HC HX
            have hcells : ∀ wx, Ext v7 wx → (wx.cell? ⟨B, 0, none⟩ = some (.bool ab) ∧ wx.cell? ⟨B, 1, none⟩ = some (.bool an) ∧ wx.cell? ⟨B, 2, none⟩ = some (.slice ao ak ac) ∧ wx.cell? ⟨B, 3, none⟩ = some (.int .i64 ae)) ∧ (wx.cell? ⟨g, 0, none⟩ = some (.bool lb) ∧ wx.cell? ⟨g, 1, none⟩ = some (.bool ln) ∧ wx.cell? ⟨g, 2, none⟩ = some (.slice lo lk lc) ∧ wx.cell? ⟨g, 3, none⟩ = some (.int .i64 le)) ∧ (wx.cell? ⟨h, 0, none⟩ = some (.bool ub) ∧ wx.cell? ⟨h, 1, none⟩ = some (.bool un) ∧ wx.cell? ⟨h, 2, none⟩ = some (.slice uo uk uc) ∧ wx.cell? ⟨h, 3, none⟩ = some (.int .i64 ue)) := fun wx h =>
              ⟨⟨(xa.ext h).c0, (xa.ext h).c1, (xa.ext h).c2, (xa.ext h).c3⟩, ⟨(xl.ext h).c0, (xl.ext h).c1, (xl.ext h).c2, (xl.ext h).c3⟩, ⟨(xu.ext h).c0, (xu.ext h).c1, (xu.ext h).c2, (xu.ext h).c3⟩⟩
            have HC := Lib.hid hcells; clear hcells
            obtain ⟨⟨a0, a1, a2, a3⟩, ⟨l0, l1, l2, l3⟩, u0, u1, u2, u3⟩ := HC.out v7 (Ext.refl _)
            clear xa xl xu xm xr
            have TAG1 := Lib.hid trivial
            go_cut [13, 14] from 117 (fun p q wx => ∃ g h pb pn po pk pc pe qb qn qo qk qc qe, p = .pointer (some ⟨g, 0, none⟩) ∧ q = .pointer (some ⟨h, 0, none⟩) ∧
              DBox wx g pb pn po pk pc pe ∧ DBox wx h qb qn qo qk qc qe ∧ DSt v7 wx [⟨.agg #[.bool qb, .bool qn, .slice qo qk qc, .int .i64 qe], dsub DU d, true⟩, ⟨.agg #[.bool pb, .bool pn, .slice po pk pc, .int .i64 pe], dsub d DL, true⟩, ⟨nv, d, true⟩, ⟨.agg #[.bool rb, .bool rn, .slice ro rk rc, .int .i64 re], DR, true⟩, ⟨.agg #[.bool mb, .bool mn, .slice mo mk mc, .int .i64 me], DM, true⟩, ⟨.agg #[.bool ub, .bool un, .slice uo uk uc, .int .i64 ue], DU, true⟩, ⟨.agg #[.bool lb, .bool ln, .slice lo lk lc, .int .i64 le], DL, true⟩, ⟨.agg #[.bool ab, .bool an, .slice ao ak ac, .int .i64 ae], d, false⟩])
            case first => exact dnear_r14 (by with_reducible assumption) (by with_reducible assumption) HC hst std hBa hBl hBu
            case rest =>
              obtain ⟨g3, h3, pb, pn, po, pk, pc, pe, qb, qn, qo, qk, qc, qe, rfl, rfl, xp, xq, stc⟩ := hcut
              have EX := Lib.hid (EX.out.trans stc.ext)
              have xa := HY.out.1.ext stc.ext
              have xl := HY.out.2.1.ext stc.ext
              have xu := HY.out.2.2.1.ext stc.ext
              have xm := HY.out.2.2.2.1.ext stc.ext
              have xr := HY.out.2.2.2.2.ext stc.ext
              have hst := stc.self
              clear TAG1 stc std HC HY a0 a1 a2 a3 l0 l1 l2 l3 u0 u1 u2 u3
              have hcells : ∀ wx, Ext wc wx → (wx.cell? ⟨B, 0, none⟩ = some (.bool ab) ∧ wx.cell? ⟨B, 1, none⟩ = some (.bool an) ∧ wx.cell? ⟨B, 2, none⟩ = some (.slice ao ak ac) ∧ wx.cell? ⟨B, 3, none⟩ = some (.int .i64 ae)) ∧ (wx.cell? ⟨g, 0, none⟩ = some (.bool lb) ∧ wx.cell? ⟨g, 1, none⟩ = some (.bool ln) ∧ wx.cell? ⟨g, 2, none⟩ = some (.slice lo lk lc) ∧ wx.cell? ⟨g, 3, none⟩ = some (.int .i64 le)) ∧ (wx.cell? ⟨h, 0, none⟩ = some (.bool ub) ∧ wx.cell? ⟨h, 1, none⟩ = some (.bool un) ∧ wx.cell? ⟨h, 2, none⟩ = some (.slice uo uk uc) ∧ wx.cell? ⟨h, 3, none⟩ = some (.int .i64 ue)) ∧ (wx.cell? ⟨g2, 0, none⟩ = some (.bool mb) ∧ wx.cell? ⟨g2, 1, none⟩ = some (.bool mn) ∧ wx.cell? ⟨g2, 2, none⟩ = some (.slice mo mk mc) ∧ wx.cell? ⟨g2, 3, none⟩ = some (.int .i64 me)) ∧ (wx.cell? ⟨h2, 0, none⟩ = some (.bool rb) ∧ wx.cell? ⟨h2, 1, none⟩ = some (.bool rn) ∧ wx.cell? ⟨h2, 2, none⟩ = some (.slice ro rk rc) ∧ wx.cell? ⟨h2, 3, none⟩ = some (.int .i64 re)) ∧ (wx.cell? ⟨g3, 0, none⟩ = some (.bool pb) ∧ wx.cell? ⟨g3, 1, none⟩ = some (.bool pn) ∧ wx.cell? ⟨g3, 2, none⟩ = some (.slice po pk pc) ∧ wx.cell? ⟨g3, 3, none⟩ = some (.int .i64 pe)) ∧ (wx.cell? ⟨h3, 0, none⟩ = some (.bool qb) ∧ wx.cell? ⟨h3, 1, none⟩ = some (.bool qn) ∧ wx.cell? ⟨h3, 2, none⟩ = some (.slice qo qk qc) ∧ wx.cell? ⟨h3, 3, none⟩ = some (.int .i64 qe)) := fun wx h =>
                ⟨⟨(xa.ext h).c0, (xa.ext h).c1, (xa.ext h).c2, (xa.ext h).c3⟩, ⟨(xl.ext h).c0, (xl.ext h).c1, (xl.ext h).c2, (xl.ext h).c3⟩, ⟨(xu.ext h).c0, (xu.ext h).c1, (xu.ext h).c2, (xu.ext h).c3⟩, ⟨(xm.ext h).c0, (xm.ext h).c1, (xm.ext h).c2, (xm.ext h).c3⟩, ⟨(xr.ext h).c0, (xr.ext h).c1, (xr.ext h).c2, (xr.ext h).c3⟩, ⟨(xp.ext h).c0, (xp.ext h).c1, (xp.ext h).c2, (xp.ext h).c3⟩, ⟨(xq.ext h).c0, (xq.ext h).c1, (xq.ext h).c2, (xq.ext h).c3⟩⟩
              have HC := Lib.hid hcells; clear hcells
              obtain ⟨⟨a0, a1, a2, a3⟩, ⟨l0, l1, l2, l3⟩, ⟨u0, u1, u2, u3⟩, ⟨m0, m1, m2, m3⟩, ⟨r0, r1, r2, r3⟩, ⟨p0, p1, p2, p3⟩, q0, q1, q2, q3⟩ := HC.out wc (Ext.refl _)
              clear xa xl xu xm xr xp xq
              go_wp2_with fail
              refine (dcmp_bag hst (by repeat (first | exact List.Mem.head _ | refine List.Mem.tail _ ?_)) (by repeat (first | exact List.Mem.head _ | refine List.Mem.tail _ ?_)) c NB.out.below NB.out.above NB.out.cmp).mono ?_
              rintro e wa1 ⟨rfl, hst⟩
              clear a0 a1 a2 a3 l0 l1 l2 l3 u0 u1 u2 u3 m0 m1 m2 m3 r0 r1 r2 r3 p0 p1 p2 p3 q0 q1 q2 q3
              obtain ⟨⟨a0, a1, a2, a3⟩, ⟨l0, l1, l2, l3⟩, ⟨u0, u1, u2, u3⟩, ⟨m0, m1, m2, m3⟩, ⟨r0, r1, r2, r3⟩, ⟨p0, p1, p2, p3⟩, q0, q1, q2, q3⟩ := HC.out _ hst.ext
              have hlm : DM = DL → decide (DM = DU) = false := fun h => decide_eq_false (by rw [h]; exact NB.out.lohi)
              have hum : DM = DU → decide (DM = DL) = false := fun h => decide_eq_false (by rw [h]; exact Ne.symm NB.out.lohi)
              have HLM := Lib.hid hlm
              have HUM := Lib.hid hum
              have hch := NB.out.choice
              clear hlm hum
              rcases hch with ⟨rfl, hm⟩ | ⟨rfl, hm⟩ | ⟨rfl, hm⟩
              · have HM := Lib.hid hm
                clear hm
                go_wp2_with fail
                refine (dsame_bag hst (by repeat (first | exact List.Mem.head _ | refine List.Mem.tail _ ?_)) (by repeat (first | exact List.Mem.head _ | refine List.Mem.tail _ ?_)) true (decide_eq_true HM.out)).mono ?_
                rintro e wt0 ⟨rfl, hst⟩
                clear a0 a1 a2 a3 l0 l1 l2 l3 u0 u1 u2 u3 m0 m1 m2 m3 r0 r1 r2 r3 p0 p1 p2 p3 q0 q1 q2 q3
                obtain ⟨⟨a0, a1, a2, a3⟩, ⟨l0, l1, l2, l3⟩, ⟨u0, u1, u2, u3⟩, ⟨m0, m1, m2, m3⟩, ⟨r0, r1, r2, r3⟩, ⟨p0, p1, p2, p3⟩, q0, q1, q2, q3⟩ := HC.out _ hst.ext
                go_wp2_with fail
                refine (dsame_bag hst (by repeat (first | exact List.Mem.head _ | refine List.Mem.tail _ ?_)) (by repeat (first | exact List.Mem.head _ | refine List.Mem.tail _ ?_)) true (decide_eq_true HM.out)).mono ?_
                rintro e wt1 ⟨rfl, hst⟩
                clear a0 a1 a2 a3 l0 l1 l2 l3 u0 u1 u2 u3 m0 m1 m2 m3 r0 r1 r2 r3 p0 p1 p2 p3 q0 q1 q2 q3
                obtain ⟨⟨a0, a1, a2, a3⟩, ⟨l0, l1, l2, l3⟩, ⟨u0, u1, u2, u3⟩, ⟨m0, m1, m2, m3⟩, ⟨r0, r1, r2, r3⟩, ⟨p0, p1, p2, p3⟩, q0, q1, q2, q3⟩ := HC.out _ hst.ext
                rcases NB.out.inward with ⟨hsg, hin⟩ | ⟨hsg, hin⟩
                · have HIN := Lib.hid hin
                  clear hin
                  have HSG := Lib.hid (show sgn3 (dm d) 0 = -1 from sgn3_lt hsg)
                  clear hsg
                  go_wp2_with fail
                  refine (dsign_bag hst (by repeat (first | exact List.Mem.head _ | refine List.Mem.tail _ ?_)) (-1) HSG.out).mono ?_
                  rintro e wa7 ⟨rfl, hst⟩
                  clear a0 a1 a2 a3 l0 l1 l2 l3 u0 u1 u2 u3 m0 m1 m2 m3 r0 r1 r2 r3 p0 p1 p2 p3 q0 q1 q2 q3
                  obtain ⟨⟨a0, a1, a2, a3⟩, ⟨l0, l1, l2, l3⟩, ⟨u0, u1, u2, u3⟩, ⟨m0, m1, m2, m3⟩, ⟨r0, r1, r2, r3⟩, ⟨p0, p1, p2, p3⟩, q0, q1, q2, q3⟩ := HC.out _ hst.ext
                  go_wp2_with fail
                  refine (dsame_bag hst (by repeat (first | exact List.Mem.head _ | refine List.Mem.tail _ ?_)) (by repeat (first | exact List.Mem.head _ | refine List.Mem.tail _ ?_)) true (decide_eq_true HIN.out)).mono ?_
                  rintro e wa8 ⟨rfl, hst⟩
                  go_wp2_with fail
                  refine (dawake_bag hst).mono ?_
                  rintro e wa9 ⟨rfl, hst⟩
                  go_wp2
                  go_ret
                  exact ⟨rfl, EX.out.trans hst.ext⟩
                · have HIN := Lib.hid hin
                  clear hin
                  obtain ⟨s5, hs5, hs6⟩ : ∃ s5, sgn3 (dm d) 0 = s5 ∧ 0 ≤ s5 := ⟨_, rfl, by unfold sgn3; rw [if_neg (by omega)]; split <;> omega⟩
                  have HSG := Lib.hid hs5
                  clear hs5
                  clear hsg
                  go_wp2_with fail
                  refine (dsign_bag hst (by repeat (first | exact List.Mem.head _ | refine List.Mem.tail _ ?_)) (s5) HSG.out).mono ?_
                  rintro e wa7 ⟨rfl, hst⟩
                  clear a0 a1 a2 a3 l0 l1 l2 l3 u0 u1 u2 u3 m0 m1 m2 m3 r0 r1 r2 r3 p0 p1 p2 p3 q0 q1 q2 q3
                  obtain ⟨⟨a0, a1, a2, a3⟩, ⟨l0, l1, l2, l3⟩, ⟨u0, u1, u2, u3⟩, ⟨m0, m1, m2, m3⟩, ⟨r0, r1, r2, r3⟩, ⟨p0, p1, p2, p3⟩, q0, q1, q2, q3⟩ := HC.out _ hst.ext
                  go_wp2_with fail
                  refine (dsame_bag hst (by repeat (first | exact List.Mem.head _ | refine List.Mem.tail _ ?_)) (by repeat (first | exact List.Mem.head _ | refine List.Mem.tail _ ?_)) true (decide_eq_true HIN.out)).mono ?_
                  rintro e wa8 ⟨rfl, hst⟩
                  go_wp2_with fail
                  refine (dawake_bag hst).mono ?_
                  rintro e wa9 ⟨rfl, hst⟩
                  go_wp2
                  go_ret
                  exact ⟨rfl, EX.out.trans hst.ext⟩
              · have HM := Lib.hid hm
                clear hm
                go_wp2_with fail
                refine (dsame_bag hst (by repeat (first | exact List.Mem.head _ | refine List.Mem.tail _ ?_)) (by repeat (first | exact List.Mem.head _ | refine List.Mem.tail _ ?_)) true (decide_eq_true HM.out)).mono ?_
                rintro e wt0 ⟨rfl, hst⟩
                clear a0 a1 a2 a3 l0 l1 l2 l3 u0 u1 u2 u3 m0 m1 m2 m3 r0 r1 r2 r3 p0 p1 p2 p3 q0 q1 q2 q3
                obtain ⟨⟨a0, a1, a2, a3⟩, ⟨l0, l1, l2, l3⟩, ⟨u0, u1, u2, u3⟩, ⟨m0, m1, m2, m3⟩, ⟨r0, r1, r2, r3⟩, ⟨p0, p1, p2, p3⟩, q0, q1, q2, q3⟩ := HC.out _ hst.ext
                go_wp2_with fail
                refine (dsame_bag hst (by repeat (first | exact List.Mem.head _ | refine List.Mem.tail _ ?_)) (by repeat (first | exact List.Mem.head _ | refine List.Mem.tail _ ?_)) false (HUM.out HM.out)).mono ?_
                rintro e wt1 ⟨rfl, hst⟩
                clear a0 a1 a2 a3 l0 l1 l2 l3 u0 u1 u2 u3 m0 m1 m2 m3 r0 r1 r2 r3 p0 p1 p2 p3 q0 q1 q2 q3
                obtain ⟨⟨a0, a1, a2, a3⟩, ⟨l0, l1, l2, l3⟩, ⟨u0, u1, u2, u3⟩, ⟨m0, m1, m2, m3⟩, ⟨r0, r1, r2, r3⟩, ⟨p0, p1, p2, p3⟩, q0, q1, q2, q3⟩ := HC.out _ hst.ext
                go_wp2_with fail
                refine (dsame_bag hst (by repeat (first | exact List.Mem.head _ | refine List.Mem.tail _ ?_)) (by repeat (first | exact List.Mem.head _ | refine List.Mem.tail _ ?_)) true (decide_eq_true HM.out)).mono ?_
                rintro e wt2 ⟨rfl, hst⟩
                clear a0 a1 a2 a3 l0 l1 l2 l3 u0 u1 u2 u3 m0 m1 m2 m3 r0 r1 r2 r3 p0 p1 p2 p3 q0 q1 q2 q3
                obtain ⟨⟨a0, a1, a2, a3⟩, ⟨l0, l1, l2, l3⟩, ⟨u0, u1, u2, u3⟩, ⟨m0, m1, m2, m3⟩, ⟨r0, r1, r2, r3⟩, ⟨p0, p1, p2, p3⟩, q0, q1, q2, q3⟩ := HC.out _ hst.ext
                rcases NB.out.inward with ⟨hsg, hin⟩ | ⟨hsg, hin⟩
                · have HIN := Lib.hid hin
                  clear hin
                  have HSG := Lib.hid (show sgn3 (dm d) 0 = -1 from sgn3_lt hsg)
                  clear hsg
                  go_wp2_with fail
                  refine (dsign_bag hst (by repeat (first | exact List.Mem.head _ | refine List.Mem.tail _ ?_)) (-1) HSG.out).mono ?_
                  rintro e wa7 ⟨rfl, hst⟩
                  clear a0 a1 a2 a3 l0 l1 l2 l3 u0 u1 u2 u3 m0 m1 m2 m3 r0 r1 r2 r3 p0 p1 p2 p3 q0 q1 q2 q3
                  obtain ⟨⟨a0, a1, a2, a3⟩, ⟨l0, l1, l2, l3⟩, ⟨u0, u1, u2, u3⟩, ⟨m0, m1, m2, m3⟩, ⟨r0, r1, r2, r3⟩, ⟨p0, p1, p2, p3⟩, q0, q1, q2, q3⟩ := HC.out _ hst.ext
                  go_wp2_with fail
                  refine (dsame_bag hst (by repeat (first | exact List.Mem.head _ | refine List.Mem.tail _ ?_)) (by repeat (first | exact List.Mem.head _ | refine List.Mem.tail _ ?_)) true (decide_eq_true HIN.out)).mono ?_
                  rintro e wa8 ⟨rfl, hst⟩
                  go_wp2_with fail
                  refine (dawake_bag hst).mono ?_
                  rintro e wa9 ⟨rfl, hst⟩
                  go_wp2
                  go_ret
                  exact ⟨rfl, EX.out.trans hst.ext⟩
                · have HIN := Lib.hid hin
                  clear hin
                  obtain ⟨s5, hs5, hs6⟩ : ∃ s5, sgn3 (dm d) 0 = s5 ∧ 0 ≤ s5 := ⟨_, rfl, by unfold sgn3; rw [if_neg (by omega)]; split <;> omega⟩
                  have HSG := Lib.hid hs5
                  clear hs5
                  clear hsg
                  go_wp2_with fail
                  refine (dsign_bag hst (by repeat (first | exact List.Mem.head _ | refine List.Mem.tail _ ?_)) (s5) HSG.out).mono ?_
                  rintro e wa7 ⟨rfl, hst⟩
                  clear a0 a1 a2 a3 l0 l1 l2 l3 u0 u1 u2 u3 m0 m1 m2 m3 r0 r1 r2 r3 p0 p1 p2 p3 q0 q1 q2 q3
                  obtain ⟨⟨a0, a1, a2, a3⟩, ⟨l0, l1, l2, l3⟩, ⟨u0, u1, u2, u3⟩, ⟨m0, m1, m2, m3⟩, ⟨r0, r1, r2, r3⟩, ⟨p0, p1, p2, p3⟩, q0, q1, q2, q3⟩ := HC.out _ hst.ext
                  go_wp2_with fail
                  refine (dsame_bag hst (by repeat (first | exact List.Mem.head _ | refine List.Mem.tail _ ?_)) (by repeat (first | exact List.Mem.head _ | refine List.Mem.tail _ ?_)) true (decide_eq_true HIN.out)).mono ?_
                  rintro e wa8 ⟨rfl, hst⟩
                  go_wp2_with fail
                  refine (dawake_bag hst).mono ?_
                  rintro e wa9 ⟨rfl, hst⟩
                  go_wp2
                  go_ret
                  exact ⟨rfl, EX.out.trans hst.ext⟩
              · rcases hm with hm | hm
                · have HM := Lib.hid hm
                  clear hm
                  go_wp2_with fail
                  refine (dsame_bag hst (by repeat (first | exact List.Mem.head _ | refine List.Mem.tail _ ?_)) (by repeat (first | exact List.Mem.head _ | refine List.Mem.tail _ ?_)) true (decide_eq_true HM.out)).mono ?_
                  rintro e wt0 ⟨rfl, hst⟩
                  clear a0 a1 a2 a3 l0 l1 l2 l3 u0 u1 u2 u3 m0 m1 m2 m3 r0 r1 r2 r3 p0 p1 p2 p3 q0 q1 q2 q3
                  obtain ⟨⟨a0, a1, a2, a3⟩, ⟨l0, l1, l2, l3⟩, ⟨u0, u1, u2, u3⟩, ⟨m0, m1, m2, m3⟩, ⟨r0, r1, r2, r3⟩, ⟨p0, p1, p2, p3⟩, q0, q1, q2, q3⟩ := HC.out _ hst.ext
                  rcases NB.out.inward with ⟨hsg, hin⟩ | ⟨hsg, hin⟩
                  · have HIN := Lib.hid hin
                    clear hin
                    have HSG := Lib.hid (show sgn3 (dm d) 0 = -1 from sgn3_lt hsg)
                    clear hsg
                    go_wp2_with fail
                    refine (dsign_bag hst (by repeat (first | exact List.Mem.head _ | refine List.Mem.tail _ ?_)) (-1) HSG.out).mono ?_
                    rintro e wa7 ⟨rfl, hst⟩
                    clear a0 a1 a2 a3 l0 l1 l2 l3 u0 u1 u2 u3 m0 m1 m2 m3 r0 r1 r2 r3 p0 p1 p2 p3 q0 q1 q2 q3
                    obtain ⟨⟨a0, a1, a2, a3⟩, ⟨l0, l1, l2, l3⟩, ⟨u0, u1, u2, u3⟩, ⟨m0, m1, m2, m3⟩, ⟨r0, r1, r2, r3⟩, ⟨p0, p1, p2, p3⟩, q0, q1, q2, q3⟩ := HC.out _ hst.ext
                    go_wp2_with fail
                    refine (dsame_bag hst (by repeat (first | exact List.Mem.head _ | refine List.Mem.tail _ ?_)) (by repeat (first | exact List.Mem.head _ | refine List.Mem.tail _ ?_)) true (decide_eq_true HIN.out)).mono ?_
                    rintro e wa8 ⟨rfl, hst⟩
                    go_wp2_with fail
                    refine (dawake_bag hst).mono ?_
                    rintro e wa9 ⟨rfl, hst⟩
                    go_wp2
                    go_ret
                    exact ⟨rfl, EX.out.trans hst.ext⟩
                  · have HIN := Lib.hid hin
                    clear hin
                    obtain ⟨s5, hs5, hs6⟩ : ∃ s5, sgn3 (dm d) 0 = s5 ∧ 0 ≤ s5 := ⟨_, rfl, by unfold sgn3; rw [if_neg (by omega)]; split <;> omega⟩
                    have HSG := Lib.hid hs5
                    clear hs5
                    clear hsg
                    go_wp2_with fail
                    refine (dsign_bag hst (by repeat (first | exact List.Mem.head _ | refine List.Mem.tail _ ?_)) (s5) HSG.out).mono ?_
                    rintro e wa7 ⟨rfl, hst⟩
                    clear a0 a1 a2 a3 l0 l1 l2 l3 u0 u1 u2 u3 m0 m1 m2 m3 r0 r1 r2 r3 p0 p1 p2 p3 q0 q1 q2 q3
                    obtain ⟨⟨a0, a1, a2, a3⟩, ⟨l0, l1, l2, l3⟩, ⟨u0, u1, u2, u3⟩, ⟨m0, m1, m2, m3⟩, ⟨r0, r1, r2, r3⟩, ⟨p0, p1, p2, p3⟩, q0, q1, q2, q3⟩ := HC.out _ hst.ext
                    go_wp2_with fail
                    refine (dsame_bag hst (by repeat (first | exact List.Mem.head _ | refine List.Mem.tail _ ?_)) (by repeat (first | exact List.Mem.head _ | refine List.Mem.tail _ ?_)) true (decide_eq_true HIN.out)).mono ?_
                    rintro e wa8 ⟨rfl, hst⟩
                    go_wp2_with fail
                    refine (dawake_bag hst).mono ?_
                    rintro e wa9 ⟨rfl, hst⟩
                    go_wp2
                    go_ret
                    exact ⟨rfl, EX.out.trans hst.ext⟩
                · have HM := Lib.hid hm
                  clear hm
                  go_wp2_with fail
                  refine (dsame_bag hst (by repeat (first | exact List.Mem.head _ | refine List.Mem.tail _ ?_)) (by repeat (first | exact List.Mem.head _ | refine List.Mem.tail _ ?_)) false (HUM.out HM.out)).mono ?_
                  rintro e wt0 ⟨rfl, hst⟩
                  clear a0 a1 a2 a3 l0 l1 l2 l3 u0 u1 u2 u3 m0 m1 m2 m3 r0 r1 r2 r3 p0 p1 p2 p3 q0 q1 q2 q3
                  obtain ⟨⟨a0, a1, a2, a3⟩, ⟨l0, l1, l2, l3⟩, ⟨u0, u1, u2, u3⟩, ⟨m0, m1, m2, m3⟩, ⟨r0, r1, r2, r3⟩, ⟨p0, p1, p2, p3⟩, q0, q1, q2, q3⟩ := HC.out _ hst.ext
                  go_wp2_with fail
                  refine (dsame_bag hst (by repeat (first | exact List.Mem.head _ | refine List.Mem.tail _ ?_)) (by repeat (first | exact List.Mem.head _ | refine List.Mem.tail _ ?_)) true (decide_eq_true HM.out)).mono ?_
                  rintro e wt1 ⟨rfl, hst⟩
                  clear a0 a1 a2 a3 l0 l1 l2 l3 u0 u1 u2 u3 m0 m1 m2 m3 r0 r1 r2 r3 p0 p1 p2 p3 q0 q1 q2 q3
                  obtain ⟨⟨a0, a1, a2, a3⟩, ⟨l0, l1, l2, l3⟩, ⟨u0, u1, u2, u3⟩, ⟨m0, m1, m2, m3⟩, ⟨r0, r1, r2, r3⟩, ⟨p0, p1, p2, p3⟩, q0, q1, q2, q3⟩ := HC.out _ hst.ext
                  rcases NB.out.inward with ⟨hsg, hin⟩ | ⟨hsg, hin⟩
                  · have HIN := Lib.hid hin
                    clear hin
                    have HSG := Lib.hid (show sgn3 (dm d) 0 = -1 from sgn3_lt hsg)
                    clear hsg
                    go_wp2_with fail
                    refine (dsign_bag hst (by repeat (first | exact List.Mem.head _ | refine List.Mem.tail _ ?_)) (-1) HSG.out).mono ?_
                    rintro e wa7 ⟨rfl, hst⟩
                    clear a0 a1 a2 a3 l0 l1 l2 l3 u0 u1 u2 u3 m0 m1 m2 m3 r0 r1 r2 r3 p0 p1 p2 p3 q0 q1 q2 q3
                    obtain ⟨⟨a0, a1, a2, a3⟩, ⟨l0, l1, l2, l3⟩, ⟨u0, u1, u2, u3⟩, ⟨m0, m1, m2, m3⟩, ⟨r0, r1, r2, r3⟩, ⟨p0, p1, p2, p3⟩, q0, q1, q2, q3⟩ := HC.out _ hst.ext
                    go_wp2_with fail
                    refine (dsame_bag hst (by repeat (first | exact List.Mem.head _ | refine List.Mem.tail _ ?_)) (by repeat (first | exact List.Mem.head _ | refine List.Mem.tail _ ?_)) true (decide_eq_true HIN.out)).mono ?_
                    rintro e wa8 ⟨rfl, hst⟩
                    go_wp2_with fail
                    refine (dawake_bag hst).mono ?_
                    rintro e wa9 ⟨rfl, hst⟩
                    go_wp2
                    go_ret
                    exact ⟨rfl, EX.out.trans hst.ext⟩
                  · have HIN := Lib.hid hin
                    clear hin
                    obtain ⟨s5, hs5, hs6⟩ : ∃ s5, sgn3 (dm d) 0 = s5 ∧ 0 ≤ s5 := ⟨_, rfl, by unfold sgn3; rw [if_neg (by omega)]; split <;> omega⟩
                    have HSG := Lib.hid hs5
                    clear hs5
                    clear hsg
                    go_wp2_with fail
                    refine (dsign_bag hst (by repeat (first | exact List.Mem.head _ | refine List.Mem.tail _ ?_)) (s5) HSG.out).mono ?_
                    rintro e wa7 ⟨rfl, hst⟩
                    clear a0 a1 a2 a3 l0 l1 l2 l3 u0 u1 u2 u3 m0 m1 m2 m3 r0 r1 r2 r3 p0 p1 p2 p3 q0 q1 q2 q3
                    obtain ⟨⟨a0, a1, a2, a3⟩, ⟨l0, l1, l2, l3⟩, ⟨u0, u1, u2, u3⟩, ⟨m0, m1, m2, m3⟩, ⟨r0, r1, r2, r3⟩, ⟨p0, p1, p2, p3⟩, q0, q1, q2, q3⟩ := HC.out _ hst.ext
                    go_wp2_with fail
                    refine (dsame_bag hst (by repeat (first | exact List.Mem.head _ | refine List.Mem.tail _ ?_)) (by repeat (first | exact List.Mem.head _ | refine List.Mem.tail _ ?_)) true (decide_eq_true HIN.out)).mono ?_
                    rintro e wa8 ⟨rfl, hst⟩
                    go_wp2_with fail
                    refine (dawake_bag hst).mono ?_
                    rintro e wa9 ⟨rfl, hst⟩
                    go_wp2
                    go_ret
                    exact ⟨rfl, EX.out.trans hst.ext⟩
  · have sa : slimSays ak ae 20 2000 = false := by simpa using sa
    go_wp2_with fail
    refine (dslim_at ab an ao ak ac ae _ false sa).mono ?_
    rintro e v1 ⟨rfl, hv1⟩
    go_wp2_with fail
    refine (dawake_any _ (HTW.out.below hv1)).mono ?_
    rintro e v2 ⟨rfl, hv2⟩
    go_wp2
    go_ret
    exact ⟨rfl, HB.out.trans (hv1.trans hv2)⟩
end Go.Proofs.YtimehdepiigkgaaDoor
