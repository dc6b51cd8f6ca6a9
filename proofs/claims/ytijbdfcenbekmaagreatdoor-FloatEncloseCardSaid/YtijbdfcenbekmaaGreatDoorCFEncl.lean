/- FloatEnclose returns true, from what its callees do. -/
import Derived.Test.YtijbdfcenbekmaaGreatDoorCFEnclM
namespace Go.Proofs.YtijbdfcenbekmaaGreatDoor
open Go.RowKit

theorem upF_letter {a r : Nat} (ha : a < 18446744073709551616) (h : fupF a = r) (w : World) : Calls Tryz.prog 14 #[.int .u64 (a : Int)] w fun e w' => e = .returned (.int .u64 (r : Int)) ∧ w = w' := by rw [← h]; exact upF_any a ha w

set_option maxRecDepth 100000 in
set_option maxHeartbeats 8000000 in
theorem fenclose_any (bb nb : Bool) (ao : Option Addr) (n ca : Nat) (f : Int) (w : World) (hd : RawD w bb nb ao n ca f) (hT : Table w) (hT6 : Table64 w) :
    Calls Tryz.prog 3 #[.agg #[.bool bb, .bool nb, .slice ao n ca, .int .i64 f]] w fun e w' => e = .returned (.bool true) ∧ Ext w w' := by
  go_enter Tryz.func3, Tryz.ntmps3
  go_upto_region 1 with fail
  obtain ⟨W, hW, hB, hx, hz⟩ := dbox_new w bb nb ao n ca f
  rw [← hW]
  clear hW
  have hd : RawD W bb nb ao n ca f := ⟨hd.1, hd.2.1, fun h => by obtain ⟨zs, hs⟩ := hd.2.2 h; exact ⟨zs, hs.below hB⟩⟩
  have HT := Lib.hid (hT.below hB)
  have HT6 := Lib.hid (hT6.below hB)
  have HB := Lib.hid (show Ext w W from hB)
  have EX := Lib.hid (Ext.refl W)
  clear hB hT hT6 hz
  generalize w.heap.size = B at *
  have HC := Lib.hid (show ∀ wx, Ext W wx → (wx.cell? ⟨B, 0, none⟩ = some (.bool bb) ∧ wx.cell? ⟨B, 1, none⟩ = some (.bool nb) ∧ wx.cell? ⟨B, 2, none⟩ = some (.slice ao n ca) ∧ wx.cell? ⟨B, 3, none⟩ = some (.int .i64 f)) from fun wx h => ⟨(hx.ext h).c0, (hx.ext h).c1, (hx.ext h).c2, (hx.ext h).c3⟩)
  clear hx
  obtain ⟨c0, c1, c2, c3⟩ := HC.out W (Ext.refl _)
  cases hsl : slimSays n f 20 3000 with
  | false =>
    have CL := Lib.hid (fun w => slim_no_at bb nb ao n ca f w false hsl)
    clear hsl hd
    go_wp2_with fail
    refine (CL.out _).mono ?_
    rintro r w1 ⟨rfl, hE⟩
    clear c0 c1 c2 c3
    have EX := Lib.hid (Ext.trans EX.out hE)
    clear hE
    go_wp2_with fail
    refine (fawake_any _ (HT.out.below EX.out)).mono ?_
    rintro r wz ⟨rfl, hE⟩
    go_wp2
    go_ret
    exact ⟨rfl, HB.out.trans (Ext.trans EX.out hE)⟩
  | true =>
    have CL := Lib.hid (fun w => slim_no_at bb nb ao n ca f w true hsl)
    obtain ⟨d, hdl, -, hnd⟩ := hd.dl hsl (by omega)
    have HD := Lib.hid (fun wx (h : Ext W wx) => hdl.ext h)
    clear hsl hd hdl
    go_wp2_with fail
    refine (CL.out _).mono ?_
    rintro r w1 ⟨rfl, hE⟩
    clear c0 c1 c2 c3
    have EX := Lib.hid (Ext.trans EX.out hE)
    clear hE
    obtain ⟨c0, c1, c2, c3⟩ := HC.out _ EX.out
    cases d with
    | none =>
      have CV := Lib.hid (fun wx (h : Ext W wx) => refDValid_any _ _ wx (HD.out wx h) (HT.out.below h))
      clear hnd
      go_wp2_with fail
      refine (CV.out _ EX.out).mono ?_
      rintro r w2 ⟨rfl, hE⟩
      clear c0 c1 c2 c3
      have EX := Lib.hid (Ext.trans EX.out hE)
      clear hE
      go_wp2_with fail
      refine (fawake_any _ (HT.out.below EX.out)).mono ?_
      rintro r wz ⟨rfl, hE⟩
      go_wp2
      go_ret
      exact ⟨rfl, HB.out.trans (Ext.trans EX.out hE)⟩
    | some p =>
      obtain ⟨m, e⟩ := p
      have CV := Lib.hid (fun wx (h : Ext W wx) => refDValid_any _ _ wx (HD.out wx h) (HT.out.below h))
      have CSG := Lib.hid (fun wx (h : Ext W wx) => refDSign_any _ _ wx (HD.out wx h) (HT.out.below h))
      go_wp2_with fail
      refine (CV.out _ EX.out).mono ?_
      rintro r w2 ⟨rfl, hE⟩
      clear c0 c1 c2 c3
      have EX := Lib.hid (Ext.trans EX.out hE)
      clear hE
      obtain ⟨c0, c1, c2, c3⟩ := HC.out _ EX.out
      by_cases hm : m = 0
      · have v0 : (sgn3 (dm (some (m, e))) 0 == 0) = true := by rw [hm]; rfl
        clear hnd hm
        go_wp2_with fail
        refine (CSG.out _ EX.out).mono ?_
        rintro r w3 ⟨rfl, hE⟩
        clear c0 c1 c2 c3
        have EX := Lib.hid (Ext.trans EX.out hE)
        clear hE
        go_wp2_with fail
        refine (fawake_any _ (HT.out.below EX.out)).mono ?_
        rintro r wz ⟨rfl, hE⟩
        go_wp2
        go_ret
        exact ⟨rfl, HB.out.trans (Ext.trans EX.out hE)⟩
      · have v0 : (sgn3 (dm (some (m, e))) 0 == 0) = false := by
          rw [beq_eq_false_iff_ne]
          exact fun h => hm (sgn3_zero_iff.1 h)
        obtain ⟨x, ok, y, is, E⟩ := encl_is hnd hm
        have ll := frdF_lt (some (m, e)) 1
        have lh := frdF_lt (some (m, e)) 2
        have ln := frdF_lt (some (m, e)) 0
        obtain ⟨lo, hlo⟩ : ∃ lo, frdF (some (m, e)) 1 = lo := ⟨_, rfl⟩
        obtain ⟨hi, hhi⟩ : ∃ hi, frdF (some (m, e)) 2 = hi := ⟨_, rfl⟩
        obtain ⟨near, hne⟩ : ∃ near, frdF (some (m, e)) 0 = near := ⟨_, rfl⟩
        have C1 := Lib.hid (fun wx (h : Ext W wx) => frd_at (HD.out wx h).dg (HT.out.below h) hlo)
        have C2 := Lib.hid (fun wx (h : Ext W wx) => frd_at (HD.out wx h).dg (HT.out.below h) hhi)
        have C3 := Lib.hid (fun wx (h : Ext W wx) => frd_at (HD.out wx h).dg (HT.out.below h) hne)
        rw [hlo] at E ll
        rw [hhi] at E lh
        rw [hne] at E ln
        have k1 : ∀ g, nanB g = false → fkind g ≠ 3 := fun g h => by
          have h1 := nanB_not h
          unfold fkind
          split
          · omega
          · split
            · omega
            · rw [if_pos (by omega)]; omega
        obtain ⟨kl, hkl⟩ : ∃ kl, fkind lo = kl := ⟨_, rfl⟩
        obtain ⟨kh, hkh⟩ : ∃ kh, fkind hi = kh := ⟨_, rfl⟩
        have K1 := Lib.hid (fun w => kindF_at ll hkl w)
        have K2 := Lib.hid (fun w => kindF_at lh hkh w)
        have v1 : (kl == 3) = false := by rw [beq_eq_false_iff_ne, ← hkl]; exact k1 lo E.nlo
        have v2 : (kh == 3) = false := by rw [beq_eq_false_iff_ne, ← hkh]; exact k1 hi E.nhi
        have FL := Lib.hid (fun w h => fof_at ll (rfl : fdy lo = fdy lo) w h)
        have FH := Lib.hid (fun w h => fof_at lh (rfl : fdy hi = fdy hi) w h)
        have UL := Lib.hid (fun w => upF_letter ll (rfl : fupF lo = fupF lo) w)
        have DX := Lib.hid E.cx
        have DY := Lib.hid E.cy
        have xle : ¬ 0 < x := by have := E.xle; omega
        have yle : ¬ 0 < y := by have := E.yle; omega
        have NL := Lib.hid E.noLo
        have NH := Lib.hid E.noHi
        have SM := Lib.hid E.same
        have NX := Lib.hid (fun h => (And.intro (E.next h).2 (fun w => cmpF_at (fupF_lt ll) lh (E.next h).1 w)))
        generalize fdy lo = dl at *
        generalize fdy hi = dh at *
        generalize fupF lo = up at *
        clear E k1 hkl hkh hlo hhi hne ll lh ln hnd
        go_wp2_with fail
        refine (CSG.out _ EX.out).mono ?_
        rintro r w3 ⟨rfl, hE⟩
        clear c0 c1 c2 c3
        have EX := Lib.hid (Ext.trans EX.out hE)
        clear hE
        obtain ⟨c0, c1, c2, c3⟩ := HC.out _ EX.out
        go_upto_region 3 with fail
        have e0 : Ext W w3.drew := Ext.trans EX.out ((Below.refl _ _).drew)
        go_cut [3, 4, 5] from 26 (fun p q r wx => p = .int .u64 (lo : Int) ∧ q = .int .u64 (hi : Int) ∧ r = .int .u64 (near : Int) ∧ Ext W wx)
        case first =>
          go_region_held3 (fun wx => (wx.cell? ⟨B, 0, none⟩ = some (.bool bb) ∧ wx.cell? ⟨B, 1, none⟩ = some (.bool nb) ∧ wx.cell? ⟨B, 2, none⟩ = some (.slice ao n ca) ∧ wx.cell? ⟨B, 3, none⟩ = some (.int .i64 f)))
            (first | exact HC.out _ (by assumption))
            (first
              | (go_at_call 9; with_reducible refine (C1.out _ (by assumption)).mono ?_; rintro e wn ⟨rfl, hE1⟩; have e1 : Ext W wn := Ext.trans (by assumption) hE1)
              | (go_at_call 9; with_reducible refine (C2.out _ (by assumption)).mono ?_; rintro e wm ⟨rfl, hE1⟩; have e1 : Ext W wm := Ext.trans (by assumption) hE1)
              | (go_at_call 9; with_reducible refine (C3.out _ (by assumption)).mono ?_; rintro e wk ⟨rfl, hE1⟩; have e1 : Ext W wk := Ext.trans (by assumption) hE1))
          all_goals
            first | (have EF : Ext W wk := by assumption) | skip
            go_wp2
            go_meet
          all_goals
            exact ⟨rfl, rfl, rfl, by assumption⟩
        case rest =>
          obtain ⟨rfl, rfl, rfl, hE⟩ := hcut
          have EX := Lib.hid hE
          clear hE c0 c1 c2 c3 e0
          go_wp2_with fail
          refine (K1.out _).mono ?_
          rintro r w5 ⟨rfl, rfl⟩
          go_wp2_with fail
          refine (K2.out _).mono ?_
          rintro r w6 ⟨rfl, rfl⟩
          obtain ⟨c0, c1, c2, c3⟩ := HC.out _ EX.out
          go_upto_region 6 with fail
          have e0 : Ext W wc.drew := Ext.trans EX.out ((Below.refl _ _).drew)
          go_cut [6, 7] from 40 (fun p q wx => p = .int .i64 x ∧ q = .bool ok ∧ Ext W wx)
          case first =>
            go_region_held3 (fun wx => (wx.cell? ⟨B, 0, none⟩ = some (.bool bb) ∧ wx.cell? ⟨B, 1, none⟩ = some (.bool nb) ∧ wx.cell? ⟨B, 2, none⟩ = some (.slice ao n ca) ∧ wx.cell? ⟨B, 3, none⟩ = some (.int .i64 f)))
              (first | exact HC.out _ (by assumption))
              (first
                | (go_at_call 12; refine (FL.out _ (HT6.out.below (by assumption))).mono ?_; rintro e wn ⟨v, rfl, hv, hE1⟩; have e1 : Ext W wn := Ext.trans (by assumption) hE1; have CV := Lib.hid (fun wx (h : Ext wn wx) (h2 : Ext W wx) => dcmp_at (hv.ext h).dg (HD.out wx h2).dg (HT.out.below h2) DX.out); have f1 : Ext wn wn := Ext.refl wn)
                | (go_at_call 11; refine (CV.out _ (by assumption) (by assumption)).mono ?_; rintro e wk ⟨rfl, hE1⟩; have e1 : Ext W wk := Ext.trans (by assumption) hE1))
            all_goals
              have EF : Ext W wk := by assumption
              go_wp2
              go_meet
            all_goals
              exact ⟨rfl, rfl, EF⟩
          case rest =>
            obtain ⟨rfl, rfl, hE⟩ := hcut
            have EX := Lib.hid hE
            clear hE c0 c1 c2 c3 e0
            obtain ⟨c0, c1, c2, c3⟩ := HC.out _ EX.out
            go_upto_region 7 with fail
            have e0 : Ext W wc.drew := Ext.trans EX.out ((Below.refl _ _).drew)
            go_cut [8, 9] from 47 (fun p q wx => p = .int .i64 y ∧ q = .bool is ∧ Ext W wx)
            case first =>
              go_region_held3 (fun wx => (wx.cell? ⟨B, 0, none⟩ = some (.bool bb) ∧ wx.cell? ⟨B, 1, none⟩ = some (.bool nb) ∧ wx.cell? ⟨B, 2, none⟩ = some (.slice ao n ca) ∧ wx.cell? ⟨B, 3, none⟩ = some (.int .i64 f)))
                (first | exact HC.out _ (by assumption))
                (first
                  | (go_at_call 12; refine (FH.out _ (HT6.out.below (by assumption))).mono ?_; rintro e wn ⟨v, rfl, hv, hE1⟩; have e1 : Ext W wn := Ext.trans (by assumption) hE1; have CV := Lib.hid (fun wx (h : Ext wn wx) (h2 : Ext W wx) => dcmp_at (HD.out wx h2).dg (hv.ext h).dg (HT.out.below h2) DY.out); have f1 : Ext wn wn := Ext.refl wn)
                  | (go_at_call 11; refine (CV.out _ (by assumption) (by assumption)).mono ?_; rintro e wk ⟨rfl, hE1⟩; have e1 : Ext W wk := Ext.trans (by assumption) hE1))
              all_goals
                have EF : Ext W wk := by assumption
                go_wp2
                go_meet
              all_goals
                exact ⟨rfl, rfl, EF⟩
            case rest =>
              obtain ⟨rfl, rfl, hE⟩ := hcut
              have EX := Lib.hid hE
              clear hE c0 c1 c2 c3 e0
              cases ok with
              | false =>
                have t1 : ((lo : Int) != 18442240474082181120) = false := by rw [NL.out rfl]; rfl
                cases is with
                | false =>
                  have t2 : ((hi : Int) != 9218868437227405312) = false := by rw [NH.out rfl]; rfl
                  obtain ⟨q1, CC⟩ := NX.out (by simp)
                  have CC := Lib.hid CC
                  rcases q1 with q1 | q1
                  · have u1 : ((near : Int) == lo) = true := by rw [q1]; simp
                    clear q1
                    go_wp2_with fail
                    refine (UL.out _).mono ?_
                    rintro r w7 ⟨rfl, rfl⟩
                    go_wp2_with fail
                    refine (CC.out _).mono ?_
                    rintro r w8 ⟨rfl, hE⟩
                    have EX := Lib.hid (Ext.trans EX.out hE)
                    clear hE
                    go_wp2_with fail
                    refine (fawake_any _ (HT.out.below EX.out)).mono ?_
                    rintro r wz ⟨rfl, hE⟩
                    go_wp2
                    go_ret
                    exact ⟨rfl, HB.out.trans (Ext.trans EX.out hE)⟩
                  · have u2 : ((near : Int) == hi) = true := by rw [q1]; simp
                    clear q1
                    cases u1 : ((near : Int) == lo)
                    all_goals
                      go_wp2_with fail
                      refine (UL.out _).mono ?_
                      rintro r w7 ⟨rfl, rfl⟩
                      go_wp2_with fail
                      refine (CC.out _).mono ?_
                      rintro r w8 ⟨rfl, hE⟩
                      have EX := Lib.hid (Ext.trans EX.out hE)
                      clear hE
                      go_wp2_with fail
                      refine (fawake_any _ (HT.out.below EX.out)).mono ?_
                      rintro r wz ⟨rfl, hE⟩
                      go_wp2
                      go_ret
                      exact ⟨rfl, HB.out.trans (Ext.trans EX.out hE)⟩
                | true =>
                  by_cases hy : y = 0
                  · have t3 : (y == 0) = true := by rw [hy]; rfl
                    obtain ⟨q1, q2⟩ := SM.out (Or.inr ⟨rfl, hy⟩)
                    have u1 : ((lo : Int) == hi) = true := by rw [q1]; simp
                    have u2 : ((near : Int) == lo) = true := by rw [q2]; simp
                    clear q1 q2
                    go_wp2_with fail
                    refine (fawake_any _ (HT.out.below EX.out)).mono ?_
                    rintro r wz ⟨rfl, hE⟩
                    go_wp2
                    go_ret
                    exact ⟨rfl, HB.out.trans (Ext.trans EX.out hE)⟩
                  · have t3 : (y == 0) = false := beq_eq_false_iff_ne.2 hy
                    obtain ⟨q1, CC⟩ := NX.out (by simp [hy])
                    have CC := Lib.hid CC
                    rcases q1 with q1 | q1
                    · have u1 : ((near : Int) == lo) = true := by rw [q1]; simp
                      clear q1
                      go_wp2_with fail
                      refine (UL.out _).mono ?_
                      rintro r w7 ⟨rfl, rfl⟩
                      go_wp2_with fail
                      refine (CC.out _).mono ?_
                      rintro r w8 ⟨rfl, hE⟩
                      have EX := Lib.hid (Ext.trans EX.out hE)
                      clear hE
                      go_wp2_with fail
                      refine (fawake_any _ (HT.out.below EX.out)).mono ?_
                      rintro r wz ⟨rfl, hE⟩
                      go_wp2
                      go_ret
                      exact ⟨rfl, HB.out.trans (Ext.trans EX.out hE)⟩
                    · have u2 : ((near : Int) == hi) = true := by rw [q1]; simp
                      clear q1
                      cases u1 : ((near : Int) == lo)
                      all_goals
                        go_wp2_with fail
                        refine (UL.out _).mono ?_
                        rintro r w7 ⟨rfl, rfl⟩
                        go_wp2_with fail
                        refine (CC.out _).mono ?_
                        rintro r w8 ⟨rfl, hE⟩
                        have EX := Lib.hid (Ext.trans EX.out hE)
                        clear hE
                        go_wp2_with fail
                        refine (fawake_any _ (HT.out.below EX.out)).mono ?_
                        rintro r wz ⟨rfl, hE⟩
                        go_wp2
                        go_ret
                        exact ⟨rfl, HB.out.trans (Ext.trans EX.out hE)⟩
              | true =>
                by_cases hx : x = 0
                · have t3 : (x == 0) = true := by rw [hx]; rfl
                  cases is with
                  | false =>
                    have t2 : ((hi : Int) != 9218868437227405312) = false := by rw [NH.out rfl]; rfl
                    obtain ⟨q1, q2⟩ := SM.out (Or.inl ⟨rfl, hx⟩)
                    have u1 : ((lo : Int) == hi) = true := by rw [q1]; simp
                    have u2 : ((near : Int) == lo) = true := by rw [q2]; simp
                    clear q1 q2
                    go_wp2_with fail
                    refine (fawake_any _ (HT.out.below EX.out)).mono ?_
                    rintro r wz ⟨rfl, hE⟩
                    go_wp2
                    go_ret
                    exact ⟨rfl, HB.out.trans (Ext.trans EX.out hE)⟩
                  | true =>
                    obtain ⟨q1, q2⟩ := SM.out (Or.inl ⟨rfl, hx⟩)
                    have u1 : ((lo : Int) == hi) = true := by rw [q1]; simp
                    have u2 : ((near : Int) == lo) = true := by rw [q2]; simp
                    clear q1 q2
                    go_wp2_with fail
                    refine (fawake_any _ (HT.out.below EX.out)).mono ?_
                    rintro r wz ⟨rfl, hE⟩
                    go_wp2
                    go_ret
                    exact ⟨rfl, HB.out.trans (Ext.trans EX.out hE)⟩
                · have t3 : (x == 0) = false := beq_eq_false_iff_ne.2 hx
                  cases is with
                  | false =>
                    have t2 : ((hi : Int) != 9218868437227405312) = false := by rw [NH.out rfl]; rfl
                    obtain ⟨q1, CC⟩ := NX.out (by simp [hx])
                    have CC := Lib.hid CC
                    rcases q1 with q1 | q1
                    · have u1 : ((near : Int) == lo) = true := by rw [q1]; simp
                      clear q1
                      go_wp2_with fail
                      refine (UL.out _).mono ?_
                      rintro r w7 ⟨rfl, rfl⟩
                      go_wp2_with fail
                      refine (CC.out _).mono ?_
                      rintro r w8 ⟨rfl, hE⟩
                      have EX := Lib.hid (Ext.trans EX.out hE)
                      clear hE
                      go_wp2_with fail
                      refine (fawake_any _ (HT.out.below EX.out)).mono ?_
                      rintro r wz ⟨rfl, hE⟩
                      go_wp2
                      go_ret
                      exact ⟨rfl, HB.out.trans (Ext.trans EX.out hE)⟩
                    · have u2 : ((near : Int) == hi) = true := by rw [q1]; simp
                      clear q1
                      cases u1 : ((near : Int) == lo)
                      all_goals
                        go_wp2_with fail
                        refine (UL.out _).mono ?_
                        rintro r w7 ⟨rfl, rfl⟩
                        go_wp2_with fail
                        refine (CC.out _).mono ?_
                        rintro r w8 ⟨rfl, hE⟩
                        have EX := Lib.hid (Ext.trans EX.out hE)
                        clear hE
                        go_wp2_with fail
                        refine (fawake_any _ (HT.out.below EX.out)).mono ?_
                        rintro r wz ⟨rfl, hE⟩
                        go_wp2
                        go_ret
                        exact ⟨rfl, HB.out.trans (Ext.trans EX.out hE)⟩
                  | true =>
                    by_cases hy : y = 0
                    · have t4 : (y == 0) = true := by rw [hy]; rfl
                      obtain ⟨q1, q2⟩ := SM.out (Or.inr ⟨rfl, hy⟩)
                      have u1 : ((lo : Int) == hi) = true := by rw [q1]; simp
                      have u2 : ((near : Int) == lo) = true := by rw [q2]; simp
                      clear q1 q2
                      go_wp2_with fail
                      refine (fawake_any _ (HT.out.below EX.out)).mono ?_
                      rintro r wz ⟨rfl, hE⟩
                      go_wp2
                      go_ret
                      exact ⟨rfl, HB.out.trans (Ext.trans EX.out hE)⟩
                    · have t4 : (y == 0) = false := beq_eq_false_iff_ne.2 hy
                      obtain ⟨q1, CC⟩ := NX.out (by simp [hx, hy])
                      have CC := Lib.hid CC
                      rcases q1 with q1 | q1
                      · have u1 : ((near : Int) == lo) = true := by rw [q1]; simp
                        clear q1
                        go_wp2_with fail
                        refine (UL.out _).mono ?_
                        rintro r w7 ⟨rfl, rfl⟩
                        go_wp2_with fail
                        refine (CC.out _).mono ?_
                        rintro r w8 ⟨rfl, hE⟩
                        have EX := Lib.hid (Ext.trans EX.out hE)
                        clear hE
                        go_wp2_with fail
                        refine (fawake_any _ (HT.out.below EX.out)).mono ?_
                        rintro r wz ⟨rfl, hE⟩
                        go_wp2
                        go_ret
                        exact ⟨rfl, HB.out.trans (Ext.trans EX.out hE)⟩
                      · have u2 : ((near : Int) == hi) = true := by rw [q1]; simp
                        clear q1
                        cases u1 : ((near : Int) == lo)
                        all_goals
                          go_wp2_with fail
                          refine (UL.out _).mono ?_
                          rintro r w7 ⟨rfl, rfl⟩
                          go_wp2_with fail
                          refine (CC.out _).mono ?_
                          rintro r w8 ⟨rfl, hE⟩
                          have EX := Lib.hid (Ext.trans EX.out hE)
                          clear hE
                          go_wp2_with fail
                          refine (fawake_any _ (HT.out.below EX.out)).mono ?_
                          rintro r wz ⟨rfl, hE⟩
                          go_wp2
                          go_ret
                          exact ⟨rfl, HB.out.trans (Ext.trans EX.out hE)⟩
end Go.Proofs.YtijbdfcenbekmaaGreatDoor
