/- FloatHalves returns true, from what its callees do. -/
import Derived.Test.YthakjcdchaimpaaDoorCFSqrt
import Derived.Test.YthakjcdchaimpaaDoorCFSterb
import Derived.Test.YthakjcdchaimpaaDoorGl
namespace Go.Proofs.YthakjcdchaimpaaDoor
open Go.RowKit

theorem is_dcmpS {d d' : Dy} {S : Nat} {N N' : Int} (h : Is d S N) (h' : Is d' S N') (hS : S ≤ 65536) : DcmpIs d d' (sgn3 N N') true := by
  have h1 := is_cmp h h' hS
  refine Or.inr ⟨?_, ?_, h1.symm, rfl⟩
  · obtain ⟨m, e, h2, _⟩ := h; rw [h2]; simp
  · obtain ⟨m, e, h2, _⟩ := h'; rw [h2]; simp
theorem fdy_small (f : Nat) : blen (dm (fdy f)).natAbs ≤ 3100 := by
  cases hf : finB f
  · rw [show fdy f = none by unfold fdy; rw [hf]; rfl]; simp [dm, blen]
  · cases hz : zeroB f
    · have h0 : sig f ≠ 0 := fun h => by have h1 := (sig_zero f).1 h; unfold zeroB at hz; rw [h1] at hz; simp at hz
      obtain ⟨h1, h2, _⟩ := fdy_parts hf h0 (tzf_isTz (sig f))
      rw [h1]
      have h3 : (dm (some (if fneg f then -((sig f / 2 ^ tzf (sig f) : Nat) : Int) else ((sig f / 2 ^ tzf (sig f) : Nat) : Int), -1074 + (fsh f : Int) + tzf (sig f)))).natAbs = sig f / 2 ^ tzf (sig f) := by
        show (if fneg f then -((sig f / 2 ^ tzf (sig f) : Nat) : Int) else ((sig f / 2 ^ tzf (sig f) : Nat) : Int)).natAbs = _
        cases fneg f
        · exact Int.natAbs_natCast _
        · show (-((sig f / 2 ^ tzf (sig f) : Nat) : Int)).natAbs = _
          rw [Int.natAbs_neg, Int.natAbs_natCast]
      rw [h3]
      exact Nat.le_trans (blen_le_of_lt (k := 53) h2) (by omega)
    · rw [fdy_zero hz]; simp [dm, blen]

/-- products of floats, exactly -/
theorem fdy_mul {f g : Nat} (hf : finB f = true) (hg : finB g = true) : Is (dmul (fdy f) (fdy g)) (1074 + 1074) (fzs f * fzs g) := by
  have b1 := fz_bound hf
  have b2 := fz_bound hg
  rw [← fzs_abs] at b1 b2
  exact (fdy_is hf).mul (fdy_is hg) (by omega) (abs_mul_lt b1 b2) (by rw [low46_le]; omega)
theorem fdy_up {f : Nat} (hf : finB f = true) : Is (fdy f) (1074 + 1074) (fzs f * 2 ^ low74) := (fdy_is hf).up 1074

theorem pos_fzs {f : Nat} (h : fneg f = false) : fzs f = (fz f : Int) := by unfold fzs; rw [h]; rfl

/-- what the statement compares -/
structure DivIs (a b lo hi : Nat) (x y : Int) : Prop where
  cx : DcmpIs (dmul (fdy lo) (fdy b)) (fdy a) x true
  cy : finB hi = true → DcmpIs (fdy a) (dmul (fdy hi) (fdy b)) y true
  xle : ¬ 0 < x
  yle : finB hi = true → ¬ 0 < y
structure SqIs (a r s : Nat) (p q : Int) : Prop where
  cp : DcmpIs (dmul (fdy r) (fdy r)) (fdy a) p true
  cq : DcmpIs (fdy a) (dmul (fdy s) (fdy s)) q true
  ple : p ≤ 0
  qle : q ≤ 0
theorem prod_le {x y z k : Nat} (h : x * y ≤ z * 2 ^ k) : sgn3 ((x : Int) * (y : Int)) ((z : Int) * 2 ^ k) ≤ 0 := by
  refine sgn3_le.2 ?_
  have h2 : ((x * y : Nat) : Int) ≤ ((z * 2 ^ k : Nat) : Int) := by omega
  rwa [Int.natCast_mul, Int.natCast_mul, Int.natCast_pow] at h2
theorem prod_ge {x y z k : Nat} (h : z * 2 ^ k ≤ x * y) : sgn3 ((z : Int) * 2 ^ k) ((x : Int) * (y : Int)) ≤ 0 := by
  refine sgn3_le.2 ?_
  have h2 : ((z * 2 ^ k : Nat) : Int) ≤ ((x * y : Nat) : Int) := by omega
  rwa [Int.natCast_mul, Int.natCast_mul, Int.natCast_pow] at h2
theorem div_is {a b : Nat} (ha : finB a = true) (hb : finB b = true) (za : zeroB a = false) (zb : zeroB b = false) (sa : fneg a = false) (sb : fneg b = false) : ∃ x y, DivIs a b (fdivF a b 1) (fdivF a b 2) x y := by
  obtain ⟨d1, d2, d3, d4, d5, d6⟩ := div_encl ha hb za zb sa sb
  have fa := fdy_up ha
  rw [pos_fzs sa] at fa
  have ml := fdy_mul d1 hb
  rw [pos_fzs d2, pos_fzs sb] at ml
  have cq2 : finB (fdivF a b 2) = true → DcmpIs (fdy a) (dmul (fdy (fdivF a b 2)) (fdy b)) (sgn3 ((fz a : Int) * 2 ^ low74) ((fz (fdivF a b 2) : Int) * (fz b : Int))) true := fun h => by
    have mh := fdy_mul h hb
    rw [pos_fzs d3, pos_fzs sb] at mh
    exact is_dcmpS fa mh (by omega)
  refine ⟨_, _, is_dcmpS ml fa (by omega), cq2, ?_, fun h => ?_⟩
  · have := prod_le d5; omega
  · have := prod_ge (d6 h); omega
theorem sq_is {a r s : Nat} (ha : finB a = true) (sa : fneg a = false) (hr : SqrtIs a 1 r) (hs : SqrtIs a 2 s) : ∃ p q, SqIs a r s p q := by
  have hm : ∀ f, f < 9218868437227405312 → finB f = true ∧ fneg f = false := fun f h => ⟨by unfold finB; rw [show fmag f = f from Nat.mod_eq_of_lt (by omega)]; exact decide_eq_true h, decide_eq_false (by omega)⟩
  obtain ⟨r1, r2⟩ := hm r hr.1
  obtain ⟨s1, s2⟩ := hm s hs.1
  have fa := fdy_up ha
  rw [pos_fzs sa] at fa
  have mr := fdy_mul r1 r1
  have ms := fdy_mul s1 s1
  rw [pos_fzs r2] at mr
  rw [pos_fzs s2] at ms
  exact ⟨_, _, is_dcmpS mr fa (by omega), is_dcmpS fa ms (by omega), prod_le (hr.2.1 rfl), prod_ge (hs.2.2 rfl)⟩

theorem isFiniteF_at {f : Nat} (hf : f < 18446744073709551616) {r : Bool} (h : finB f = r) (w : World) : Calls Tryd.prog 20 #[.int .u64 (f : Int)] w fun e w' => e = .returned (.bool r) ∧ w = w' := by rw [← h]; exact isFinite_any f hf w

set_option maxRecDepth 100000 in
set_option maxHeartbeats 8000000 in
theorem fhalves_any (a b : Nat) (ha : a < 18446744073709551616) (hb : b < 18446744073709551616) (w : World) (hT : Table w) (hT6 : Table64 w) :
    Calls Tryd.prog 4 #[.int .u64 (a : Int), .int .u64 (b : Int)] w fun e w' => e = .returned (.bool true) ∧ Ext w w' := by
  have la := fabsF_lt a
  have lb := fabsF_lt b
  obtain ⟨u, hu⟩ : ∃ u, fabsF a = u := ⟨_, rfl⟩
  obtain ⟨v, hv⟩ : ∃ v, fabsF b = v := ⟨_, rfl⟩
  have CA := Lib.hid (fun w => absF_at ha hu w)
  have CB := Lib.hid (fun w => absF_at hb hv w)
  have su : nanB u = false → fneg u = false := by
    intro h
    rw [← hu]
    unfold fabsF
    split
    · decide
    · exact decide_eq_false (by have := fmag_lt a; omega)
  have sv : nanB v = false → fneg v = false := by
    intro h
    rw [← hv]
    unfold fabsF
    split
    · decide
    · exact decide_eq_false (by have := fmag_lt b; omega)
  rw [hu] at la
  rw [hv] at lb
  clear hu hv ha hb
  obtain ⟨k1, hk1⟩ : ∃ k, fkind u = k := ⟨_, rfl⟩
  obtain ⟨k2, hk2⟩ : ∃ k, fkind v = k := ⟨_, rfl⟩
  have K1 := Lib.hid (fun w => kindF_at la hk1 w)
  have K2 := Lib.hid (fun w => kindF_at lb hk2 w)
  have HT := Lib.hid hT
  have HT6 := Lib.hid hT6
  have EX := Lib.hid (Ext.refl w)
  clear hT hT6
  have fin1 : ∀ f, fkind f = 1 → finB f = true ∧ zeroB f = false ∧ nanB f = false := fun f h => by
    rcases fkind_cases f with ⟨_, h1⟩ | ⟨h0, h2, _⟩ | ⟨_, h1⟩ | ⟨_, h1⟩
    · omega
    · exact ⟨decide_eq_true h2, decide_eq_false h0, decide_eq_false (by omega)⟩
    · omega
    · omega
  by_cases hc1 : k1 = 1
  · by_cases hc2 : k2 = 1
    · have g1 : (k1 != 1) = false := by rw [hc1]; rfl
      have g2 : (k2 != 1) = false := by rw [hc2]; rfl
      obtain ⟨a1, a2, a3⟩ := fin1 u (by rw [hk1, hc1])
      obtain ⟨b1, b2, b3⟩ := fin1 v (by rw [hk2, hc2])
      have su := su a3
      have sv := sv b3
      have SQ := Lib.hid (fun mode w => fsqrt_at la a1 a2 su mode w)
      have HI := Lib.hid (fun r s hr hs => sq_is (r := r) (s := s) a1 su hr hs)
      obtain ⟨x, y, DI⟩ := div_is a1 b1 a2 b2 su sv
      obtain ⟨lo, hlo⟩ : ∃ lo, fdivF u v 1 = lo := ⟨_, rfl⟩
      obtain ⟨hi, hhi⟩ : ∃ hi, fdivF u v 2 = hi := ⟨_, rfl⟩
      have ll : lo < 18446744073709551616 := by rw [← hlo]; exact fdiv_lt 1
      have lh : hi < 18446744073709551616 := by rw [← hhi]; exact fdiv_lt 2
      have DL := Lib.hid (fun w => divF_at la lb hlo w)
      have DH := Lib.hid (fun w => divF_at la lb hhi w)
      rw [hlo, hhi] at DI
      have OL := Lib.hid (fun w h => fof_at ll (rfl : fdy lo = fdy lo) w h)
      have OH := Lib.hid (fun w h => fof_at lh (rfl : fdy hi = fdy hi) w h)
      have OU := Lib.hid (fun w h => fof_at la (rfl : fdy u = fdy u) w h)
      have OV := Lib.hid (fun w h => fof_at lb (rfl : fdy v = fdy v) w h)
      obtain ⟨fh, hfh⟩ : ∃ fh, finB hi = fh := ⟨_, rfl⟩
      have CF := Lib.hid (fun w => isFiniteF_at lh hfh w)
      have xle := DI.xle
      have yle : fh = true → ¬ 0 < y := fun h => DI.yle (by rw [hfh, h])
      have DX := Lib.hid DI.cx
      have DY := Lib.hid (fun (h : fh = true) => DI.cy (by rw [hfh, h]))
      have YLE := Lib.hid yle
      clear hc1 hc2 hk1 hk2 fin1 a1 a2 a3 b1 b2 b3 su sv hlo hhi hfh DI yle
      go_enter Tryd.func4, Tryd.ntmps4
      go_wp2_with fail
      refine (CA.out _).mono ?_
      rintro x wa ⟨rfl, rfl⟩
      go_wp2_with fail
      refine (CB.out _).mono ?_
      rintro x wb ⟨rfl, rfl⟩
      go_wp2_with fail
      refine (K1.out _).mono ?_
      rintro x wc1 ⟨rfl, rfl⟩
      go_wp2_with fail
      refine (K2.out _).mono ?_
      rintro x wd ⟨rfl, rfl⟩
      go_wp2_with fail
      refine (DL.out _).mono ?_
      rintro x we ⟨rfl, hE⟩
      have EX := Lib.hid (Ext.trans EX.out hE)
      clear hE
      go_wp2_with fail
      refine (DH.out _).mono ?_
      rintro x wf ⟨rfl, hE⟩
      have EX := Lib.hid (Ext.trans EX.out hE)
      clear hE
      go_wp2_with fail
      refine (OL.out _ (HT6.out.below EX.out)).mono ?_
      rintro x v1 ⟨m1, rfl, hm1, hE⟩
      have EX := Lib.hid (Ext.trans EX.out hE)
      clear hE
      go_wp2_with fail
      refine (OV.out _ (HT6.out.below EX.out)).mono ?_
      rintro x v2 ⟨m2, rfl, hm2, hE⟩
      have hm1 := hm1.ext hE
      have EX := Lib.hid (Ext.trans EX.out hE)
      clear hE
      go_wp2_with fail
      refine (dmul_any _ _ _ _ _ hm1.dg hm2.dg (HT.out.below EX.out) (Or.inr (fdy_small _))).mono ?_
      rintro x v3 ⟨m3, rfl, hm3, hE⟩
      clear hm1 hm2
      have EX := Lib.hid (Ext.trans EX.out hE)
      clear hE
      go_wp2_with fail
      refine (OU.out _ (HT6.out.below EX.out)).mono ?_
      rintro x v4 ⟨m4, rfl, hm4, hE⟩
      have hm3 := hm3.ext hE
      have EX := Lib.hid (Ext.trans EX.out hE)
      clear hE
      go_wp2_with fail
      refine (dcmp_at hm3.dg hm4.dg (HT.out.below EX.out) DX.out).mono ?_
      rintro x v5 ⟨rfl, hE⟩
      clear hm3 hm4
      have EX := Lib.hid (Ext.trans EX.out hE)
      clear hE
      go_wp2_with fail
      refine (CF.out _).mono ?_
      rintro x v6 ⟨rfl, rfl⟩
      cases fh with
      | false =>
        clear DY YLE
        go_wp2_with fail
        refine (SQ.out 1 _).mono ?_
        rintro x t1 ⟨r, rfl, hsr, hE⟩
        have EX := Lib.hid (Ext.trans EX.out hE)
        clear hE
        have lr : r < 18446744073709551616 := by have := hsr.1; omega
        have OR := Lib.hid (fun w h => fof_at lr (rfl : fdy r = fdy r) w h)
        have SR := Lib.hid hsr
        clear lr hsr
        go_wp2_with fail
        refine (OR.out _ (HT6.out.below EX.out)).mono ?_
        rintro x t2 ⟨xv, rfl, hxv, hE⟩
        have EX := Lib.hid (Ext.trans EX.out hE)
        clear hE
        go_wp2_with fail
        refine (SQ.out 2 _).mono ?_
        rintro x t3 ⟨s, rfl, hss, hE⟩
        have hxv := hxv.ext hE
        have EX := Lib.hid (Ext.trans EX.out hE)
        clear hE
        have ls : s < 18446744073709551616 := by have := hss.1; omega
        have OS := Lib.hid (fun w h => fof_at ls (rfl : fdy s = fdy s) w h)
        have SS := Lib.hid hss
        clear ls hss
        go_wp2_with fail
        refine (OS.out _ (HT6.out.below EX.out)).mono ?_
        rintro x t4 ⟨yv, rfl, hyv, hE⟩
        have hxv := hxv.ext hE
        have EX := Lib.hid (Ext.trans EX.out hE)
        clear hE
        obtain ⟨p, q, SI⟩ := HI.out r s SR.out SS.out
        have ple := SI.ple
        have qle := SI.qle
        have DP := Lib.hid SI.cp
        have DQ := Lib.hid SI.cq
        clear SI
        obtain ⟨xb, xn, xo, xk, xc, xe, rfl⟩ := hxv.parts
        obtain ⟨yb, yn, yo, yk, yc, ye, rfl⟩ := hyv.parts
        go_upto_region 13 with fail
        obtain ⟨W, hW, hB, bx, bY, hz⟩ := boxes_two_d t4 xb xn xo xk xc xe yb yn yo yk yc ye
        rw [← hW]
        clear hW
        have HX := Lib.hid (fun wx (h : Ext W wx) => (hxv.ext (Ext.trans hB h)).dg)
        have HY := Lib.hid (fun wx (h : Ext W wx) => (hyv.ext (Ext.trans hB h)).dg)
        have HB := Lib.hid (Ext.trans EX.out hB)
        have HTW := Lib.hid (HT.out.below HB.out)
        have HT6W := Lib.hid (HT6.out.below HB.out)
        have EX2 := Lib.hid (Ext.refl W)
        clear hxv hyv hB hz
        generalize t4.heap.size = B at *
        have HC := Lib.hid (show ∀ wx, Ext W wx → (wx.cell? ⟨B, 0, none⟩ = some (.bool xb) ∧ wx.cell? ⟨B, 1, none⟩ = some (.bool xn) ∧ wx.cell? ⟨B, 2, none⟩ = some (.slice xo xk xc) ∧ wx.cell? ⟨B, 3, none⟩ = some (.int .i64 xe)) ∧ (wx.cell? ⟨(B + 1), 0, none⟩ = some (.bool yb) ∧ wx.cell? ⟨(B + 1), 1, none⟩ = some (.bool yn) ∧ wx.cell? ⟨(B + 1), 2, none⟩ = some (.slice yo yk yc) ∧ wx.cell? ⟨(B + 1), 3, none⟩ = some (.int .i64 ye)) from fun wx h => ⟨⟨(bx.ext h).c0, (bx.ext h).c1, (bx.ext h).c2, (bx.ext h).c3⟩, (bY.ext h).c0, (bY.ext h).c1, (bY.ext h).c2, (bY.ext h).c3⟩)
        clear bx bY
        obtain ⟨⟨x0, x1, x2, x3⟩, y0, y1, y2, y3⟩ := HC.out _ EX2.out
        go_wp2_with fail
        refine (dmul_any _ _ _ _ _ (HX.out _ EX2.out) (HX.out _ EX2.out) (HTW.out.below EX2.out) (Or.inr (fdy_small _))).mono ?_
        rintro x t5 ⟨m5, rfl, hm5, hE⟩
        clear x0 x1 x2 x3 y0 y1 y2 y3
        have EX2 := Lib.hid (Ext.trans EX2.out hE)
        clear hE
        go_wp2_with fail
        refine (OU.out _ (HT6W.out.below EX2.out)).mono ?_
        rintro x t6 ⟨m6, rfl, hm6, hE⟩
        have hm5 := hm5.ext hE
        have EX2 := Lib.hid (Ext.trans EX2.out hE)
        clear hE
        go_wp2_with fail
        refine (dcmp_at hm5.dg hm6.dg (HTW.out.below EX2.out) DP.out).mono ?_
        rintro x t7 ⟨rfl, hE⟩
        clear hm5 hm6
        have EX2 := Lib.hid (Ext.trans EX2.out hE)
        clear hE
        obtain ⟨⟨x0, x1, x2, x3⟩, y0, y1, y2, y3⟩ := HC.out _ EX2.out
        go_upto_region 14 with fail
        have e0 : Ext W t7.drew := Ext.trans EX2.out ((Below.refl _ _).drew)
        go_cut [15, 16] from 87 (fun p' q' wx => p' = .int .i64 q ∧ q' = .bool true ∧ Ext W wx)
        case first =>
          go_region_held3 (fun wx => (wx.cell? ⟨B, 0, none⟩ = some (.bool xb) ∧ wx.cell? ⟨B, 1, none⟩ = some (.bool xn) ∧ wx.cell? ⟨B, 2, none⟩ = some (.slice xo xk xc) ∧ wx.cell? ⟨B, 3, none⟩ = some (.int .i64 xe)) ∧ (wx.cell? ⟨(B + 1), 0, none⟩ = some (.bool yb) ∧ wx.cell? ⟨(B + 1), 1, none⟩ = some (.bool yn) ∧ wx.cell? ⟨(B + 1), 2, none⟩ = some (.slice yo yk yc) ∧ wx.cell? ⟨(B + 1), 3, none⟩ = some (.int .i64 ye)))
            (first | exact HC.out _ (by assumption))
            (first
              | (go_at_call 19; refine (OU.out _ (HT6W.out.below (by assumption))).mono ?_; rintro e wn ⟨v1, rfl, hv1, hE1⟩; have e1 : Ext W wn := Ext.trans (by assumption) hE1; have HV := Lib.hid (fun wx (h : Ext wn wx) => (hv1.ext h).dg); have f1 : Ext wn wn := Ext.refl wn; (first | (have g1 : Ext wm wn := Ext.trans (by assumption) hE1) | skip))
              | (go_at_call 12; refine (dmul_any _ _ _ _ _ (HY.out _ (by assumption)) (HY.out _ (by assumption)) (HTW.out.below (by assumption)) (Or.inr (fdy_small _))).mono ?_; rintro e wm ⟨u1, rfl, hu1, hE1⟩; have e1 : Ext W wm := Ext.trans (by assumption) hE1; have HU := Lib.hid (fun wx (h : Ext wm wx) => (hu1.ext h).dg); have g1 : Ext wm wm := Ext.refl wm; (first | (have f1 : Ext wn wm := Ext.trans (by assumption) hE1) | skip))
              | (go_at_call 11; refine (dcmp_at (HV.out _ (by assumption)) (HU.out _ (by assumption)) (HTW.out.below (by assumption)) DQ.out).mono ?_; rintro e wk ⟨rfl, hE1⟩; have e1 : Ext W wk := Ext.trans (by assumption) hE1))
          all_goals
            have EF : Ext W wk := by assumption
            go_wp2
            go_meet
          all_goals
            exact ⟨rfl, rfl, EF⟩
        case rest =>
          obtain ⟨rfl, rfl, hE⟩ := hcut
          have EX2 := Lib.hid hE
          clear hE x0 x1 x2 x3 y0 y1 y2 y3 e0
          go_wp2_with fail
          refine (fawake_any _ (HTW.out.below EX2.out)).mono ?_
          rintro x wz ⟨rfl, hE⟩
          go_wp2
          go_ret
          exact ⟨rfl, HB.out.trans (Ext.trans EX2.out hE)⟩
      | true =>
        have yle := YLE.out rfl
        have DY2 := Lib.hid (DY.out rfl)
        clear DY YLE
        go_wp2_with fail
        refine (OU.out _ (HT6.out.below EX.out)).mono ?_
        rintro x s1 ⟨n1, rfl, hn1, hE⟩
        have EX := Lib.hid (Ext.trans EX.out hE)
        clear hE
        go_wp2_with fail
        refine (OH.out _ (HT6.out.below EX.out)).mono ?_
        rintro x s2 ⟨n2, rfl, hn2, hE⟩
        have hn1 := hn1.ext hE
        have EX := Lib.hid (Ext.trans EX.out hE)
        clear hE
        go_wp2_with fail
        refine (OV.out _ (HT6.out.below EX.out)).mono ?_
        rintro x s3 ⟨n3, rfl, hn3, hE⟩
        have hn1 := hn1.ext hE
        have hn2 := hn2.ext hE
        have EX := Lib.hid (Ext.trans EX.out hE)
        clear hE
        go_wp2_with fail
        refine (dmul_any _ _ _ _ _ hn2.dg hn3.dg (HT.out.below EX.out) (Or.inr (fdy_small _))).mono ?_
        rintro x s4 ⟨n4, rfl, hn4, hE⟩
        have hn1 := hn1.ext hE
        clear hn2 hn3
        have EX := Lib.hid (Ext.trans EX.out hE)
        clear hE
        go_wp2_with fail
        refine (dcmp_at hn1.dg hn4.dg (HT.out.below EX.out) DY2.out).mono ?_
        rintro x s5 ⟨rfl, hE⟩
        clear hn1 hn4
        have EX := Lib.hid (Ext.trans EX.out hE)
        clear hE
        go_wp2_with fail
        refine (SQ.out 1 _).mono ?_
        rintro x t1 ⟨r, rfl, hsr, hE⟩
        have EX := Lib.hid (Ext.trans EX.out hE)
        clear hE
        have lr : r < 18446744073709551616 := by have := hsr.1; omega
        have OR := Lib.hid (fun w h => fof_at lr (rfl : fdy r = fdy r) w h)
        have SR := Lib.hid hsr
        clear lr hsr
        go_wp2_with fail
        refine (OR.out _ (HT6.out.below EX.out)).mono ?_
        rintro x t2 ⟨xv, rfl, hxv, hE⟩
        have EX := Lib.hid (Ext.trans EX.out hE)
        clear hE
        go_wp2_with fail
        refine (SQ.out 2 _).mono ?_
        rintro x t3 ⟨s, rfl, hss, hE⟩
        have hxv := hxv.ext hE
        have EX := Lib.hid (Ext.trans EX.out hE)
        clear hE
        have ls : s < 18446744073709551616 := by have := hss.1; omega
        have OS := Lib.hid (fun w h => fof_at ls (rfl : fdy s = fdy s) w h)
        have SS := Lib.hid hss
        clear ls hss
        go_wp2_with fail
        refine (OS.out _ (HT6.out.below EX.out)).mono ?_
        rintro x t4 ⟨yv, rfl, hyv, hE⟩
        have hxv := hxv.ext hE
        have EX := Lib.hid (Ext.trans EX.out hE)
        clear hE
        obtain ⟨p, q, SI⟩ := HI.out r s SR.out SS.out
        have ple := SI.ple
        have qle := SI.qle
        have DP := Lib.hid SI.cp
        have DQ := Lib.hid SI.cq
        clear SI
        obtain ⟨xb, xn, xo, xk, xc, xe, rfl⟩ := hxv.parts
        obtain ⟨yb, yn, yo, yk, yc, ye, rfl⟩ := hyv.parts
        go_upto_region 13 with fail
        obtain ⟨W, hW, hB, bx, bY, hz⟩ := boxes_two_d t4 xb xn xo xk xc xe yb yn yo yk yc ye
        rw [← hW]
        clear hW
        have HX := Lib.hid (fun wx (h : Ext W wx) => (hxv.ext (Ext.trans hB h)).dg)
        have HY := Lib.hid (fun wx (h : Ext W wx) => (hyv.ext (Ext.trans hB h)).dg)
        have HB := Lib.hid (Ext.trans EX.out hB)
        have HTW := Lib.hid (HT.out.below HB.out)
        have HT6W := Lib.hid (HT6.out.below HB.out)
        have EX2 := Lib.hid (Ext.refl W)
        clear hxv hyv hB hz
        generalize t4.heap.size = B at *
        have HC := Lib.hid (show ∀ wx, Ext W wx → (wx.cell? ⟨B, 0, none⟩ = some (.bool xb) ∧ wx.cell? ⟨B, 1, none⟩ = some (.bool xn) ∧ wx.cell? ⟨B, 2, none⟩ = some (.slice xo xk xc) ∧ wx.cell? ⟨B, 3, none⟩ = some (.int .i64 xe)) ∧ (wx.cell? ⟨(B + 1), 0, none⟩ = some (.bool yb) ∧ wx.cell? ⟨(B + 1), 1, none⟩ = some (.bool yn) ∧ wx.cell? ⟨(B + 1), 2, none⟩ = some (.slice yo yk yc) ∧ wx.cell? ⟨(B + 1), 3, none⟩ = some (.int .i64 ye)) from fun wx h => ⟨⟨(bx.ext h).c0, (bx.ext h).c1, (bx.ext h).c2, (bx.ext h).c3⟩, (bY.ext h).c0, (bY.ext h).c1, (bY.ext h).c2, (bY.ext h).c3⟩)
        clear bx bY
        obtain ⟨⟨x0, x1, x2, x3⟩, y0, y1, y2, y3⟩ := HC.out _ EX2.out
        go_wp2_with fail
        refine (dmul_any _ _ _ _ _ (HX.out _ EX2.out) (HX.out _ EX2.out) (HTW.out.below EX2.out) (Or.inr (fdy_small _))).mono ?_
        rintro x t5 ⟨m5, rfl, hm5, hE⟩
        clear x0 x1 x2 x3 y0 y1 y2 y3
        have EX2 := Lib.hid (Ext.trans EX2.out hE)
        clear hE
        go_wp2_with fail
        refine (OU.out _ (HT6W.out.below EX2.out)).mono ?_
        rintro x t6 ⟨m6, rfl, hm6, hE⟩
        have hm5 := hm5.ext hE
        have EX2 := Lib.hid (Ext.trans EX2.out hE)
        clear hE
        go_wp2_with fail
        refine (dcmp_at hm5.dg hm6.dg (HTW.out.below EX2.out) DP.out).mono ?_
        rintro x t7 ⟨rfl, hE⟩
        clear hm5 hm6
        have EX2 := Lib.hid (Ext.trans EX2.out hE)
        clear hE
        obtain ⟨⟨x0, x1, x2, x3⟩, y0, y1, y2, y3⟩ := HC.out _ EX2.out
        go_upto_region 14 with fail
        have e0 : Ext W t7.drew := Ext.trans EX2.out ((Below.refl _ _).drew)
        go_cut [15, 16] from 87 (fun p' q' wx => p' = .int .i64 q ∧ q' = .bool true ∧ Ext W wx)
        case first =>
          go_region_held3 (fun wx => (wx.cell? ⟨B, 0, none⟩ = some (.bool xb) ∧ wx.cell? ⟨B, 1, none⟩ = some (.bool xn) ∧ wx.cell? ⟨B, 2, none⟩ = some (.slice xo xk xc) ∧ wx.cell? ⟨B, 3, none⟩ = some (.int .i64 xe)) ∧ (wx.cell? ⟨(B + 1), 0, none⟩ = some (.bool yb) ∧ wx.cell? ⟨(B + 1), 1, none⟩ = some (.bool yn) ∧ wx.cell? ⟨(B + 1), 2, none⟩ = some (.slice yo yk yc) ∧ wx.cell? ⟨(B + 1), 3, none⟩ = some (.int .i64 ye)))
            (first | exact HC.out _ (by assumption))
            (first
              | (go_at_call 19; refine (OU.out _ (HT6W.out.below (by assumption))).mono ?_; rintro e wn ⟨v1, rfl, hv1, hE1⟩; have e1 : Ext W wn := Ext.trans (by assumption) hE1; have HV := Lib.hid (fun wx (h : Ext wn wx) => (hv1.ext h).dg); have f1 : Ext wn wn := Ext.refl wn; (first | (have g1 : Ext wm wn := Ext.trans (by assumption) hE1) | skip))
              | (go_at_call 12; refine (dmul_any _ _ _ _ _ (HY.out _ (by assumption)) (HY.out _ (by assumption)) (HTW.out.below (by assumption)) (Or.inr (fdy_small _))).mono ?_; rintro e wm ⟨u1, rfl, hu1, hE1⟩; have e1 : Ext W wm := Ext.trans (by assumption) hE1; have HU := Lib.hid (fun wx (h : Ext wm wx) => (hu1.ext h).dg); have g1 : Ext wm wm := Ext.refl wm; (first | (have f1 : Ext wn wm := Ext.trans (by assumption) hE1) | skip))
              | (go_at_call 11; refine (dcmp_at (HV.out _ (by assumption)) (HU.out _ (by assumption)) (HTW.out.below (by assumption)) DQ.out).mono ?_; rintro e wk ⟨rfl, hE1⟩; have e1 : Ext W wk := Ext.trans (by assumption) hE1))
          all_goals
            have EF : Ext W wk := by assumption
            go_wp2
            go_meet
          all_goals
            exact ⟨rfl, rfl, EF⟩
        case rest =>
          obtain ⟨rfl, rfl, hE⟩ := hcut
          have EX2 := Lib.hid hE
          clear hE x0 x1 x2 x3 y0 y1 y2 y3 e0
          go_wp2_with fail
          refine (fawake_any _ (HTW.out.below EX2.out)).mono ?_
          rintro x wz ⟨rfl, hE⟩
          go_wp2
          go_ret
          exact ⟨rfl, HB.out.trans (Ext.trans EX2.out hE)⟩
    · have g1 : (k1 != 1) = false := by rw [hc1]; rfl
      have g2 : (k2 != 1) = true := bne_iff_ne.2 hc2
      clear hc1 hc2 hk1 hk2 fin1 su sv la lb
      go_enter Tryd.func4, Tryd.ntmps4
      go_wp2_with fail
      refine (CA.out _).mono ?_
      rintro x wa ⟨rfl, rfl⟩
      go_wp2_with fail
      refine (CB.out _).mono ?_
      rintro x wb ⟨rfl, rfl⟩
      go_wp2_with fail
      refine (K1.out _).mono ?_
      rintro x wc1 ⟨rfl, rfl⟩
      go_wp2_with fail
      refine (K2.out _).mono ?_
      rintro x wd ⟨rfl, rfl⟩
      go_wp2_with fail
      refine (fawake_any _ (HT.out.below EX.out)).mono ?_
      rintro x wz ⟨rfl, hE⟩
      go_wp2
      go_ret
      exact ⟨rfl, Ext.trans EX.out hE⟩
  · have g1 : (k1 != 1) = true := bne_iff_ne.2 hc1
    clear hc1 hk1 hk2 fin1 su sv la lb
    go_enter Tryd.func4, Tryd.ntmps4
    go_wp2_with fail
    refine (CA.out _).mono ?_
    rintro x wa ⟨rfl, rfl⟩
    go_wp2_with fail
    refine (CB.out _).mono ?_
    rintro x wb ⟨rfl, rfl⟩
    go_wp2_with fail
    refine (K1.out _).mono ?_
    rintro x wc1 ⟨rfl, rfl⟩
    go_wp2_with fail
    refine (fawake_any _ (HT.out.below EX.out)).mono ?_
    rintro x wz ⟨rfl, hE⟩
    go_wp2
    go_ret
    exact ⟨rfl, Ext.trans EX.out hE⟩

theorem fhalves_int (a b : Int) (a0 : 0 ≤ a) (a1 : a < 18446744073709551616) (b0 : 0 ≤ b) (b1 : b < 18446744073709551616) (w : World) (hT : Table w) (hT6 : Table64 w) :
    Calls Tryd.prog 4 #[.int .u64 a, .int .u64 b] w fun e w' => e = .returned (.bool true) ∧ Ext w w' := by
  obtain ⟨x, rfl⟩ := Int.eq_ofNat_of_zero_le a0
  obtain ⟨y, rfl⟩ := Int.eq_ofNat_of_zero_le b0
  exact fhalves_any x y (by omega) (by omega) w hT hT6
end Go.Proofs.YthakjcdchaimpaaDoor
