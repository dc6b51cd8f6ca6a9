import Derived.Test.YtolghagbpnjpgaaGreatDoorFExactU26
import Derived.Test.YtolghagbpnjpgaaGreatDoorFExactU32
import Derived.Test.YtolghagbpnjpgaaGreatDoorFExactU34
import Derived.Test.YtolghagbpnjpgaaGreatDoorFExactU20
import Derived.Test.YtolghagbpnjpgaaGreatDoorFExactU24
import Derived.Test.YtolghagbpnjpgaaGreatDoorFExactU30
namespace Go.Proofs.YtolghagbpnjpgaaGreatDoor
open Go.RowKit

theorem zero_self {a : Nat} (ha : a < 18446744073709551616) (h : zeroB a = true) : a = sgz (fneg a) := by
  have h1 := f_parts ha
  have h2 := (zero_not h).2.2.1
  omega
theorem fadd_zeroS {a : Nat} {mode : Int} (ha : a < 18446744073709551616) (h : zeroB a = true) : faddF a a mode = a := by
  have e := zero_self ha h
  obtain ⟨h1, h2, -⟩ := zero_not h
  unfold faddF
  rw [add_form, h1, h2, h, ← e]
  simp
theorem fadd_cancel {a b : Nat} {mode : Int} (ha : a < 18446744073709551616) (fa : finB a = true) (fb : finB b = true) (hz : ¬ (zeroB a = true ∧ b = a)) (hs : fzs a + fzs b = 0) : faddF a b mode = cancel mode := by
  obtain ⟨a1, a2⟩ := fin_not fa
  obtain ⟨b1, b2⟩ := fin_not fb
  unfold faddF
  rw [add_form, a1, a2, b1, b2]
  simp only [Bool.or_false, Bool.false_and, Bool.false_or, Bool.false_eq_true, if_false]
  cases hza : zeroB a
  · simp only [Bool.false_and, Bool.false_eq_true, if_false]
    rw [sgi_mul, sgi_mul, ← Int.add_mul, ← fzs_sgi, ← fzs_sgi]
    unfold rsum
    rw [hs, if_pos (Int.zero_mul _)]
  · cases hzb : zeroB b
    · rw [zero_fzs hza, Int.zero_add] at hs
      exact absurd hs (nz_fzs hzb)
    · have e := zero_self ha hza
      have hne : b ≠ sgz (fneg a) := fun h => hz ⟨hza, by rw [h, ← e]⟩
      rw [decide_eq_true hne]
      rfl
theorem fadd_sum {a b : Nat} {mode : Int} (ha : a < 18446744073709551616) (hb : b < 18446744073709551616) (fa : finB a = true) (fb : finB b = true) (hz : ¬ (zeroB a = true ∧ b = a)) :
    (sgn3 (dm (dadd (fdy a) (fdy b))) 0 = 0 ∧ faddF a b mode = cancel mode) ∨ (¬ sgn3 (dm (dadd (fdy a) (fdy b))) 0 = 0 ∧ faddF a b mode = frdF (dadd (fdy a) (fdy b)) mode) := by
  have h1 := fzs_lt fa
  have h2 := fzs_lt fb
  have hi : Is (dadd (fdy a) (fdy b)) 1074 (fzs a + fzs b) := (fdy_is fa).add (fdy_is fb) (by omega) (B := 52 + low46 + 1) (by rw [Nat.pow_succ]; omega) (by decide)
  obtain ⟨m, e, hd, hm, -⟩ := hi.zero
  by_cases hs : fzs a + fzs b = 0
  · left
    refine ⟨?_, fadd_cancel ha fa fb hz hs⟩
    rw [hd]
    show sgn3 m 0 = 0
    rw [hm.2 hs]
    rfl
  · right
    refine ⟨?_, ?_⟩
    · rw [hd]
      show ¬ sgn3 m 0 = 0
      have : m ≠ 0 := fun h => hs (hm.1 h)
      unfold sgn3
      split
      · omega
      · split <;> omega
    · rw [frdF_of hi hs, (add_fin mode fa fb hb).2 hs]

set_option maxRecDepth 100000 in
set_option maxHeartbeats 2000000 in
theorem refAdd_zeroS (a : Nat) (mode : Int) (ha : a < 18446744073709551616) (za : zeroB a = true) (w : World) :
    Calls Tryz.prog 8 #[.int .u64 (a : Int), .int .u64 (a : Int), .int .i64 mode] w fun e w' => e = .returned (.int .u64 ((faddF a a mode : Nat) : Int)) ∧ Ext w w' := by
  rw [fadd_zeroS ha za]
  have NA := Lib.hid (refNan_any a ha false (zero_not za).1)
  have IA := Lib.hid (refInf_any a ha false ((kind_inf a).trans (zero_not za).2.1))
  have ZA := Lib.hid (refZero_any a ha true ((kind_zero a).trans za))
  clear za ha
  go_enter Tryz.func8, Tryz.ntmps8
  go_wp2_with (first | (go_at_call 56; (with_reducible refine (NA.out _).mono ?_); rintro e w' ⟨rfl, rfl⟩) | (go_at_call 57; (with_reducible refine (IA.out _).mono ?_); rintro e w' ⟨rfl, rfl⟩) | (go_at_call 58; (with_reducible refine (ZA.out _).mono ?_); rintro e w' ⟨rfl, rfl⟩))
  go_ret
  exact ⟨rfl, Below.refl _ _⟩

set_option maxRecDepth 100000 in
set_option maxHeartbeats 4000000 in
theorem refAdd_finN (a b : Nat) (mode : Int) (ha : a < 18446744073709551616) (hb : b < 18446744073709551616) (fa : finB a = true) (fb : finB b = true) (za : zeroB a = false) (w : World) (hT : Table w) :
    Calls Tryz.prog 8 #[.int .u64 (a : Int), .int .u64 (b : Int), .int .i64 mode] w fun e w' => e = .returned (.int .u64 ((faddF a b mode : Nat) : Int)) ∧ Ext w w' := by
  have hsum := fadd_sum (mode := mode) ha hb fa fb (by rintro ⟨h, -⟩; rw [za] at h; exact absurd h (by decide))
  have NA := Lib.hid (refNan_any a ha false (fin_not fa).1)
  have NB := Lib.hid (refNan_any b hb false (fin_not fb).1)
  have IA := Lib.hid (refInf_any a ha false ((kind_inf a).trans (fin_not fa).2))
  have IB := Lib.hid (refInf_any b hb false ((kind_inf b).trans (fin_not fb).2))
  have ZA := Lib.hid (refZero_any a ha false ((kind_zero a).trans za))
  have OA := Lib.hid (fun W (hE : Ext w W) => refOf_any a ha W (hT.below hE))
  have OB := Lib.hid (fun W (hE : Ext w W) => refOf_any b hb W (hT.below hE))
  have HTT := Lib.hid (fun W (hE : Ext w W) => hT.below hE)
  generalize faddF a b mode = R at *
  generalize fdy a = da at *
  generalize fdy b = db at *
  have HS := Lib.hid hsum
  clear hsum hT fa fb ha hb za
  go_enter Tryz.func8, Tryz.ntmps8
  go_wp2_with (first | (go_at_call 56; (with_reducible refine (NA.out _).mono ?_); rintro e w' ⟨rfl, rfl⟩) | (go_at_call 56; (with_reducible refine (NB.out _).mono ?_); rintro e w' ⟨rfl, rfl⟩) | (go_at_call 57; (with_reducible refine (IA.out _).mono ?_); rintro e w' ⟨rfl, rfl⟩) | (go_at_call 57; (with_reducible refine (IB.out _).mono ?_); rintro e w' ⟨rfl, rfl⟩) | (go_at_call 58; (with_reducible refine (ZA.out _).mono ?_); rintro e w' ⟨rfl, rfl⟩))
  refine (OA.out _ (Below.refl _ _)).mono ?_
  rintro e w1 ⟨v, rfl, hv, hw1⟩
  go_wp2_with fail
  refine (OB.out _ hw1).mono ?_
  rintro e w2 ⟨u, rfl, hu, hw2⟩
  have h2 := Ext.trans hw1 hw2
  go_wp2_with fail
  refine (ref_dadd_any _ _ _ _ w2 (hv.ext hw2).dl hu.dl (HTT.out _ h2)).mono ?_
  rintro e w3 ⟨r, rfl, hr, hw3⟩
  have h3 := Ext.trans h2 hw3
  obtain ⟨rb, rn, ro, rk, rc, re, rfl⟩ := hr.parts
  clear hv hu hw1 hw2 h2 hw3
  go_upto_region 12 with fail
  obtain ⟨V, hV, hVB, hvx, hvz⟩ := dbox_new w3 rb rn ro rk rc re
  rw [← hV]
  clear hV
  have hr := hr.ext hVB
  have h4 := Ext.trans h3 hVB
  clear h3 hVB
  generalize w3.heap.size = C at *
  have k0 := hvx.c0
  have k1 := hvx.c1
  have k2 := hvx.c2
  have k3 := hvx.c3
  go_wp2_with fail
  refine (refDSign_any _ _ V hr.dl (HTT.out _ h4)).mono ?_
  rintro e w5 ⟨rfl, hw5⟩
  have hvx := hvx.below hw5
  have hr := hr.ext hw5
  have h5 := Ext.trans h4 hw5
  clear k0 k1 k2 k3 h4 hw5
  have k0 := hvx.c0
  have k1 := hvx.c1
  have k2 := hvx.c2
  have k3 := hvx.c3
  have HTw := Lib.hid (HTT.out _ h5)
  have hs := HS.out
  clear HS
  generalize dadd da db = d at *
  generalize sgn3 (dm d) 0 = q at *
  obtain ⟨rfl, hR⟩ | ⟨hq, hR⟩ := hs
  · subst hR
    have H5 := Lib.hid h5
    clear h5 hr
    go_wp2_with fail
    refine (refEmpty_any mode _).mono ?_
    rintro e w6 ⟨rfl, rfl⟩
    go_wp2
    go_ret
    exact ⟨rfl, H5.out⟩
  · have HR := Lib.hid hR
    clear hR
    go_wp2_with fail
    refine (refRound_any _ _ mode w5 hr.dl HTw.out).mono ?_
    rintro e w6 ⟨rfl, hw6⟩
    rw [← HR.out]
    have H6 := Lib.hid (Ext.trans h5 hw6)
    clear h5 hr hw6 HR hvx k0 k1 k2 k3
    go_wp2
    go_ret
    exact ⟨rfl, H6.out⟩

set_option maxRecDepth 100000 in
set_option maxHeartbeats 4000000 in
theorem refAdd_finZ (a b : Nat) (mode : Int) (ha : a < 18446744073709551616) (hb : b < 18446744073709551616) (fa : finB a = true) (fb : finB b = true) (za : zeroB a = true) (h : b ≠ a) (w : World) (hT : Table w) :
    Calls Tryz.prog 8 #[.int .u64 (a : Int), .int .u64 (b : Int), .int .i64 mode] w fun e w' => e = .returned (.int .u64 ((faddF a b mode : Nat) : Int)) ∧ Ext w w' := by
  have hsum := fadd_sum (mode := mode) ha hb fa fb (by rintro ⟨-, h'⟩; exact h h')
  have NA := Lib.hid (refNan_any a ha false (fin_not fa).1)
  have NB := Lib.hid (refNan_any b hb false (fin_not fb).1)
  have IA := Lib.hid (refInf_any a ha false ((kind_inf a).trans (fin_not fa).2))
  have IB := Lib.hid (refInf_any b hb false ((kind_inf b).trans (fin_not fb).2))
  have ZA := Lib.hid (refZero_any a ha true ((kind_zero a).trans za))
  have OA := Lib.hid (fun W (hE : Ext w W) => refOf_any a ha W (hT.below hE))
  have OB := Lib.hid (fun W (hE : Ext w W) => refOf_any b hb W (hT.below hE))
  have HTT := Lib.hid (fun W (hE : Ext w W) => hT.below hE)
  have hn : ¬ (a : Int) = (b : Int) := by omega
  clear h
  generalize faddF a b mode = R at *
  generalize fdy a = da at *
  generalize fdy b = db at *
  have HS := Lib.hid hsum
  clear hsum hT fa fb ha hb za
  go_enter Tryz.func8, Tryz.ntmps8
  go_wp2_with (first | (go_at_call 56; (with_reducible refine (NA.out _).mono ?_); rintro e w' ⟨rfl, rfl⟩) | (go_at_call 56; (with_reducible refine (NB.out _).mono ?_); rintro e w' ⟨rfl, rfl⟩) | (go_at_call 57; (with_reducible refine (IA.out _).mono ?_); rintro e w' ⟨rfl, rfl⟩) | (go_at_call 57; (with_reducible refine (IB.out _).mono ?_); rintro e w' ⟨rfl, rfl⟩) | (go_at_call 58; (with_reducible refine (ZA.out _).mono ?_); rintro e w' ⟨rfl, rfl⟩))
  refine (OA.out _ (Below.refl _ _)).mono ?_
  rintro e w1 ⟨v, rfl, hv, hw1⟩
  go_wp2_with fail
  refine (OB.out _ hw1).mono ?_
  rintro e w2 ⟨u, rfl, hu, hw2⟩
  have h2 := Ext.trans hw1 hw2
  go_wp2_with fail
  refine (ref_dadd_any _ _ _ _ w2 (hv.ext hw2).dl hu.dl (HTT.out _ h2)).mono ?_
  rintro e w3 ⟨r, rfl, hr, hw3⟩
  have h3 := Ext.trans h2 hw3
  obtain ⟨rb, rn, ro, rk, rc, re, rfl⟩ := hr.parts
  clear hv hu hw1 hw2 h2 hw3
  go_upto_region 12 with fail
  obtain ⟨V, hV, hVB, hvx, hvz⟩ := dbox_new w3 rb rn ro rk rc re
  rw [← hV]
  clear hV
  have hr := hr.ext hVB
  have h4 := Ext.trans h3 hVB
  clear h3 hVB
  generalize w3.heap.size = C at *
  have k0 := hvx.c0
  have k1 := hvx.c1
  have k2 := hvx.c2
  have k3 := hvx.c3
  go_wp2_with fail
  refine (refDSign_any _ _ V hr.dl (HTT.out _ h4)).mono ?_
  rintro e w5 ⟨rfl, hw5⟩
  have hvx := hvx.below hw5
  have hr := hr.ext hw5
  have h5 := Ext.trans h4 hw5
  clear k0 k1 k2 k3 h4 hw5
  have k0 := hvx.c0
  have k1 := hvx.c1
  have k2 := hvx.c2
  have k3 := hvx.c3
  have HTw := Lib.hid (HTT.out _ h5)
  have hs := HS.out
  clear HS
  generalize dadd da db = d at *
  generalize sgn3 (dm d) 0 = q at *
  obtain ⟨rfl, hR⟩ | ⟨hq, hR⟩ := hs
  · subst hR
    have H5 := Lib.hid h5
    clear h5 hr
    go_wp2_with fail
    refine (refEmpty_any mode _).mono ?_
    rintro e w6 ⟨rfl, rfl⟩
    go_wp2
    go_ret
    exact ⟨rfl, H5.out⟩
  · have HR := Lib.hid hR
    clear hR
    go_wp2_with fail
    refine (refRound_any _ _ mode w5 hr.dl HTw.out).mono ?_
    rintro e w6 ⟨rfl, hw6⟩
    rw [← HR.out]
    have H6 := Lib.hid (Ext.trans h5 hw6)
    clear h5 hr hw6 HR hvx k0 k1 k2 k3
    go_wp2
    go_ret
    exact ⟨rfl, H6.out⟩

theorem refFAdd_any (a b : Nat) (mode : Int) (ha : a < 18446744073709551616) (hb : b < 18446744073709551616) (w : World) (hT : Table w) :
    Calls Tryz.prog 8 #[.int .u64 (a : Int), .int .u64 (b : Int), .int .i64 mode] w fun e w' => e = .returned (.int .u64 ((faddF a b mode : Nat) : Int)) ∧ Ext w w' := by
  have fin : ∀ f, nanB f = false → infB f = false → finB f = true := fun f h1 h2 => by
    have h1 : ¬ 9218868437227405312 < fmag f := of_decide_eq_false h1
    have h2 : ¬ fmag f = 9218868437227405312 := of_decide_eq_false h2
    exact decide_eq_true (by omega)
  cases na : nanB a with
  | true => exact refAdd_nanA a b mode ha na w
  | false =>
    cases nb : nanB b with
    | true => exact refAdd_nanB a b mode ha hb na nb w
    | false =>
      cases ia : infB a with
      | true =>
        cases ib : infB b with
        | true =>
          by_cases h : b = a
          · subst h; exact refAdd_infS b mode ha ia w
          · exact refAdd_inf2 a b mode ha hb ia ib h w
        | false => exact refAdd_infA a b mode ha hb ia nb ib w
      | false =>
        cases ib : infB b with
        | true => exact refAdd_infB a b mode ha hb ib na ia w
        | false =>
          cases za : zeroB a with
          | false => exact refAdd_finN a b mode ha hb (fin a na ia) (fin b nb ib) za w hT
          | true =>
            by_cases h : b = a
            · subst h; exact refAdd_zeroS b mode ha za w
            · exact refAdd_finZ a b mode ha hb (fin a na ia) (fin b nb ib) za h w hT
end Go.Proofs.YtolghagbpnjpgaaGreatDoor

namespace Go.Proofs.YtolghagbpnjpgaaGreatDoor
open Go.RowKit

set_option maxRecDepth 100000 in
set_option maxHeartbeats 4000000 in
theorem ref_dmul_any (u v : Value) (d d' : Dy) (w : World) (hu : Dl w u d) (hv : Dl w v d') (hT : Table w) :
    Calls Tryz.prog 68 #[u, v] w fun e w' => ∃ r, e = .returned r ∧ Dn w' r (dmul d d') ∧ Ext w w' := by
  have hu0 := hu
  have hv0 := hv
  obtain ⟨ub, un, uo, uk, uc, _, uf, rfl, -⟩ := hu0
  obtain ⟨vb, vn, vo, vk, vc, _, vf, rfl, -⟩ := hv0
  go_enter Tryz.func68, Tryz.ntmps68
  go_upto_region 1 with fail
  obtain ⟨W, hW, hB, hbx, hby, hrx, hz⟩ := boxes_ddd w ub un uo uk uc uf vb vn vo vk vc vf
  rw [← hW]
  clear hW
  have hu := hu.ext hB
  have hv := hv.ext hB
  have HT0 := Lib.hid hT
  have hT := hT.below hB
  generalize hBe : w.heap.size = B at *
  have HBe := Lib.hid hBe; clear hBe
  go_cut [] from 5 (fun wx => ∃ xb xn xo xk xc xe yb yn yo yk yc ye, Dn wx (.agg #[.bool xb, .bool xn, .slice xo xk xc, .int .i64 xe]) d ∧ Dn wx (.agg #[.bool yb, .bool yn, .slice yo yk yc, .int .i64 ye]) d' ∧
    DBox wx B xb xn xo xk xc xe ∧ DBox wx (B + 1) yb yn yo yk yc ye ∧ Below B w wx ∧ (∀ k, B + 1 < k → k < W.heap.size → wx.heap[k]? = W.heap[k]?) ∧ W.heap.size ≤ wx.heap.size)
  case first =>
    have k0 := hbx.c0
    have k1 := hbx.c1
    have k2 := hbx.c2
    have k3 := hbx.c3
    have l0 := hby.c0
    have l1 := hby.c1
    have l2 := hby.c2
    have l3 := hby.c3
    go_region_with (first
      | (go_at_call 86; refine (refDNorm_any _ _ _ (by exact hu.ext (by exact (Below.refl _ _).drew)) (by exact hT.below (by exact (Below.refl _ _).drew))).mono ?_; rintro e w1 ⟨r1, rfl, hr1, hw1⟩; have ex1 : Ext W w1 := Ext.trans (by exact (Below.refl _ _).drew) hw1; obtain ⟨xb, xn, xo, xk, xc, xe, rfl⟩ := hr1.parts; have fb := hby.ext ex1; have h0 := fb.c0; have h1 := fb.c1; have h2 := fb.c2; have h3 := fb.c3)
      | (go_at_call 86; refine (refDNorm_any _ _ _ (by exact hv.ext ex1) (by exact hT.below ex1)).mono ?_; rintro e w2 ⟨r2, rfl, hr2, hw2⟩; have ex2 : Ext W w2 := Ext.trans ex1 hw2; obtain ⟨yb, yn, yo, yk, yc, ye, rfl⟩ := hr2.parts; have hr1 := hr1.ext hw2; clear h0 h1 h2 h3; have fa := hbx.ext ex2; have fb := hby.ext ex2; have a0 := fa.c0; have a1 := fa.c1; have a2 := fa.c2; have a3 := fa.c3; have b0 := fb.c0; have b1 := fb.c1; have b2 := fb.c2; have b3 := fb.c3; have g0 := fa.f 0; have g1 := fa.f 1; have g2 := fa.f 2; have g3 := fa.f 3; have h0 := fb.f 0; have h1 := fb.f 1; have h2 := fb.f 2; have h3 := fb.f 3))
    all_goals
      go_wp2
      go_meet
    all_goals
      clear a0 a1 a2 a3 b0 b1 b2 b3 g0 g1 g2 g3 h0 h1 h2 h3 k0 k1 k2 k3 l0 l1 l2 l3
      obtain ⟨hB2, hB2'⟩ := bnext hB (by omega) ex2
      obtain ⟨Z, hZ, z1, z2, z3, z4, z5, z6, z7⟩ := two_dyads fa fb (by omega) (Nat.le_refl B) (Nat.le_succ B) hr1 hr2 hB2
      rw [← hZ]
      exact ⟨_, _, _, _, _, _, _, _, _, _, _, _, z1, z2, z4, z5, z3, fun k hk1 hk2 => by rw [z6 k (by omega) (by omega)]; exact Below.block ex2 k hk2, by rw [z7]; exact Below.size ex2⟩
  case rest =>
    obtain ⟨xb, xn, xo, xk, xc, xe, yb, yn, yo, yk, yc, ye, hx, hy, bx, bY, hB1, hkeep, hzc⟩ := hcut
    have hT1 := (show Table w from HT0.out).below (w' := wc) (by rw [HBe.out]; exact hB1)
    have hrx : DBox wc (B + 1 + 1) false false none 0 0 0 := by
      have := hrx
      unfold DBox at this ⊢
      rw [hkeep _ (by omega) (by omega)]; exact this
    have HT := Lib.hid hT1
    clear hT1 hbx hby hu hv hT hB hkeep
    have k0 := bx.c0
    have k1 := bx.c1
    have k2 := bx.c2
    have k3 := bx.c3
    have l0 := bY.c0
    have l1 := bY.c1
    have l2 := bY.c2
    have l3 := bY.c3
    cases d with
    | none =>
      obtain rfl := dn_none hx
      go_wp2_with fail
      refine (refBad_any _).mono ?_
      rintro e w1 ⟨rfl, hw1⟩
      have c1 := hrx.below hw1
      obtain ⟨hB2, hB2'⟩ := bnext hB1 (by omega) hw1
      have q0 := c1.c0
      have q1 := c1.c1
      have q2 := c1.c2
      have q3 := c1.c3
      have f0 := c1.f 0
      have f1 := c1.f 1
      have f2 := c1.f 2
      have f3 := c1.f 3
      have hres := dn_stored c1 (dn_bad w1) w hB2 (by omega)
      have z3 := c1.stored true false none 0 0 0
      have z0 := z3.c0
      have z1 := z3.c1
      have z2 := z3.c2
      have z4 := z3.c3
      have HRES := Lib.hid hres; clear hres z3
      go_wp2
      refine bodyPost_ret (v := .agg #[.bool true, .bool false, .slice none 0 0, .int .i64 0]) (by simp [results, Tryz.results68, go_sem, z0, z1, z2, z4]) rfl ⟨_, rfl, ?_, ?_⟩
      · exact HRES.out.1
      · show Below _ _ _; rw [HBe.out]; exact HRES.out.2
    | some p =>
      obtain ⟨m, f⟩ := p
      obtain ⟨rfl, rfl, hm⟩ := dn_some hx
      cases d' with
      | none =>
        obtain rfl := dn_none hy
        go_wp2_with fail
        refine (refBad_any _).mono ?_
        rintro e w1 ⟨rfl, hw1⟩
        have c1 := hrx.below hw1
        obtain ⟨hB2, hB2'⟩ := bnext hB1 (by omega) hw1
        have q0 := c1.c0
        have q1 := c1.c1
        have q2 := c1.c2
        have q3 := c1.c3
        have f0 := c1.f 0
        have f1 := c1.f 1
        have f2 := c1.f 2
        have f3 := c1.f 3
        have hres := dn_stored c1 (dn_bad w1) w hB2 (by omega)
        have z3 := c1.stored true false none 0 0 0
        have z0 := z3.c0
        have z1 := z3.c1
        have z2 := z3.c2
        have z4 := z3.c3
        have HRES := Lib.hid hres; clear hres z3
        go_wp2
        refine bodyPost_ret (v := .agg #[.bool true, .bool false, .slice none 0 0, .int .i64 0]) (by simp [results, Tryz.results68, go_sem, z0, z1, z2, z4]) rfl ⟨_, rfl, ?_, ?_⟩
        · exact HRES.out.1
        · show Below _ _ _; rw [HBe.out]; exact HRES.out.2
      | some q =>
        obtain ⟨m', f'⟩ := q
        obtain ⟨rfl, rfl, hm'⟩ := dn_some hy
        have hnx := nd_blen hx.1
        have hny := nd_blen hy.1
        simp only [dm, dx, Option.getD_some] at hnx hny
        obtain ⟨hnx, hx0, hx1⟩ := hnx
        obtain ⟨hny, hy0, hy1⟩ := hny
        have gm := bn_bg_of hm (by omega)
        have gm' := bn_bg_of hm' (by omega)
        clear hx hy hm hm'
        have HC := Lib.hid (show ∀ wx, Ext wc wx → (wx.cell? ⟨B, 1, none⟩ = some (.bool xn) ∧ wx.cell? ⟨B, 2, none⟩ = some (.slice xo xk xc) ∧ wx.cell? ⟨B, 3, none⟩ = some (.int .i64 xe)) ∧ (wx.cell? ⟨B + 1, 1, none⟩ = some (.bool yn) ∧ wx.cell? ⟨B + 1, 2, none⟩ = some (.slice yo yk yc) ∧ wx.cell? ⟨B + 1, 3, none⟩ = some (.int .i64 ye)) from fun wx h =>
          ⟨⟨(bx.ext h).c1, (bx.ext h).c2, (bx.ext h).c3⟩, ⟨(bY.ext h).c1, (bY.ext h).c2, (bY.ext h).c3⟩⟩)
        have ex0 : Ext wc wc.drew := (Below.refl _ _).drew
        have HBL := Lib.hid (show blen (m * m').natAbs ≤ 1000000 by have := blen_mul_le m m'; omega)
        have hwr : IntKind.i64.wrap (xe + ye) = xe + ye := IntWalk.i64_in _ ⟨by omega, by omega⟩
        go_upto_region 4 with fail
        go_region_held3 (fun wx => (wx.cell? ⟨B, 1, none⟩ = some (.bool xn) ∧ wx.cell? ⟨B, 2, none⟩ = some (.slice xo xk xc) ∧ wx.cell? ⟨B, 3, none⟩ = some (.int .i64 xe)) ∧ (wx.cell? ⟨B + 1, 1, none⟩ = some (.bool yn) ∧ wx.cell? ⟨B + 1, 2, none⟩ = some (.slice yo yk yc) ∧ wx.cell? ⟨B + 1, 3, none⟩ = some (.int .i64 ye)))
          (first | exact HC.out _ (by assumption) | (refine ⟨⟨?_, ?_, ?_⟩, ?_, ?_, ?_⟩ <;> go_simp))
          (first
            | (go_at_call 133; refine (refMul_any _ _ _ _ _ _ _ _ _ _ _ (by exact gm.drew) (by exact gm'.drew)).mono ?_; rintro e w1 ⟨nr, ro, l, cr, rfl, hr, hw1⟩; have ex1 : Ext wc w1 := ex0.trans hw1)
            | (go_at_call 131; refine (refMake_any _ _ _ _ _ _ _ (bn_bg_of hr HBL.out) HBL.out (by omega) (by omega) (HT.out.below ex1)).mono ?_; rintro e w2 ⟨r, rfl, hr2, hw2⟩; have ex2 : Ext wc w2 := ex1.trans hw2; obtain ⟨rb, rn, ro2, rk, rc, re, rfl⟩ := hr2.parts; have c2 := hrx.ext ex2; have q0 := c2.c0; have q1 := c2.c1; have q2 := c2.c2; have q3 := c2.c3; have f0 := c2.f 0; have f1 := c2.f 1; have f2 := c2.f 2; have f3 := c2.f 3; obtain ⟨⟨a1, a2, a3⟩, b1, b2, b3⟩ := HC.out _ ex2))
        have hB2 : Below B w w2 := (bnext hB1 (by omega) ex2).1
        have hres := dn_stored c2 hr2 w hB2 (by omega)
        have z3 := c2.stored rb rn ro2 rk rc re
        have z0 := z3.c0
        have z1 := z3.c1
        have z2 := z3.c2
        have z4 := z3.c3
        have HRES := Lib.hid hres; clear hres z3
        go_wp2
        refine bodyPost_ret (v := .agg #[.bool rb, .bool rn, .slice ro2 rk rc, .int .i64 re]) (by simp [results, Tryz.results68, go_sem, z0, z1, z2, z4]) rfl ⟨_, rfl, ?_, ?_⟩
        · exact HRES.out.1
        · show Below _ _ _; rw [HBe.out]; exact HRES.out.2
end Go.Proofs.YtolghagbpnjpgaaGreatDoor
