/- The reference's sum of floats. -/
import Derived.Test.YtjohpdobnedilaaGreatDoorCRefAddS
import Derived.Test.YtjohpdobnedilaaGreatDoorCRefRnd2
import Derived.Test.YtjohpdobnedilaaGreatDoorIa
import Derived.Test.YtjohpdobnedilaaGreatDoorCRefOf
import Derived.Test.YtjohpdobnedilaaGreatDoorHh
namespace Go.Proofs.YtjohpdobnedilaaGreatDoor
open Go.RowKit

theorem zero_self {a : Nat} (ha : a < 18446744073709551616) (h : zeroB a = true) : a = sgz (fneg a) := by
  have h1 := f_parts ha
  have h2 := (zero_not h).2.2.1
  omega
theorem fadd_zeroS {a : Nat} {mode : Int} (ha : a < 18446744073709551616) (h : zeroB a = true) : faddF a a mode = a := by
  have e := zero_self ha h
  obtain ⟨h1, h2, -⟩ := zero_not h
  unfold faddF
  rw [add_form, h1, h2, h, ← e]
  simp
theorem fadd_cancel {a b : Nat} {mode : Int} (ha : a < 18446744073709551616) (fa : finB a = true) (fb : finB b = true) (hz : ¬ (zeroB a = true ∧ b = a)) (hs : fzs a + fzs b = 0) : faddF a b mode = cancel mode := by
  obtain ⟨a1, a2⟩ := fin_not fa
  obtain ⟨b1, b2⟩ := fin_not fb
  unfold faddF
  rw [add_form, a1, a2, b1, b2]
  simp only [Bool.or_false, Bool.false_and, Bool.false_or, Bool.false_eq_true, if_false]
  cases hza : zeroB a
  · simp only [Bool.false_and, Bool.false_eq_true, if_false]
    rw [sgi_mul, sgi_mul, ← Int.add_mul, ← fzs_sgi, ← fzs_sgi]
    unfold rsum
    rw [hs, if_pos (Int.zero_mul _)]
  · cases hzb : zeroB b
    · rw [zero_fzs hza, Int.zero_add] at hs
      exact absurd hs (nz_fzs hzb)
    · have e := zero_self ha hza
      have hne : b ≠ sgz (fneg a) := fun h => hz ⟨hza, by rw [h, ← e]⟩
      rw [decide_eq_true hne]
      rfl
theorem fadd_sum {a b : Nat} {mode : Int} (ha : a < 18446744073709551616) (hb : b < 18446744073709551616) (fa : finB a = true) (fb : finB b = true) (hz : ¬ (zeroB a = true ∧ b = a)) :
    (sgn3 (dm (dadd (fdy a) (fdy b))) 0 = 0 ∧ faddF a b mode = cancel mode) ∨ (¬ sgn3 (dm (dadd (fdy a) (fdy b))) 0 = 0 ∧ faddF a b mode = frdF (dadd (fdy a) (fdy b)) mode) := by
  have h1 := fzs_lt fa
  have h2 := fzs_lt fb
  have hi : Is (dadd (fdy a) (fdy b)) 1074 (fzs a + fzs b) := (fdy_is fa).add (fdy_is fb) (by omega) (B := 52 + low46 + 1) (by rw [Nat.pow_succ]; omega) (by decide)
  obtain ⟨m, e, hd, hm, -⟩ := hi.zero
  by_cases hs : fzs a + fzs b = 0
  · left
    refine ⟨?_, fadd_cancel ha fa fb hz hs⟩
    rw [hd]
    show sgn3 m 0 = 0
    rw [hm.2 hs]
    rfl
  · right
    refine ⟨?_, ?_⟩
    · rw [hd]
      show ¬ sgn3 m 0 = 0
      have : m ≠ 0 := fun h => hs (hm.1 h)
      unfold sgn3
      split
      · omega
      · split <;> omega
    · rw [frdF_of hi hs, (add_fin mode fa fb hb).2 hs]

set_option maxRecDepth 100000 in
set_option maxHeartbeats 2000000 in
theorem refAdd_zeroS (a : Nat) (mode : Int) (ha : a < 18446744073709551616) (za : zeroB a = true) (w : World) :
    Calls Tryz.prog 59 #[.int .u64 (a : Int), .int .u64 (a : Int), .int .i64 mode] w fun e w' => e = .returned (.int .u64 ((faddF a a mode : Nat) : Int)) ∧ Ext w w' := by
  rw [fadd_zeroS ha za]
  have NA := Lib.hid (refNan_any a ha false (zero_not za).1)
  have IA := Lib.hid (refInf_any a ha false ((kind_inf a).trans (zero_not za).2.1))
  have ZA := Lib.hid (refZero_any a ha true ((kind_zero a).trans za))
  clear za ha
  go_enter Tryz.func59, Tryz.ntmps59
  go_wp2_with (first | (go_at_call 71; (with_reducible refine (NA.out _).mono ?_); rintro e w' ⟨rfl, rfl⟩) | (go_at_call 139; (with_reducible refine (IA.out _).mono ?_); rintro e w' ⟨rfl, rfl⟩) | (go_at_call 83; (with_reducible refine (ZA.out _).mono ?_); rintro e w' ⟨rfl, rfl⟩))
  go_ret
  exact ⟨rfl, Below.refl _ _⟩

set_option maxRecDepth 100000 in
set_option maxHeartbeats 4000000 in
theorem refAdd_finN (a b : Nat) (mode : Int) (ha : a < 18446744073709551616) (hb : b < 18446744073709551616) (fa : finB a = true) (fb : finB b = true) (za : zeroB a = false) (w : World) (hT : Table w) :
    Calls Tryz.prog 59 #[.int .u64 (a : Int), .int .u64 (b : Int), .int .i64 mode] w fun e w' => e = .returned (.int .u64 ((faddF a b mode : Nat) : Int)) ∧ Ext w w' := by
  have hsum := fadd_sum (mode := mode) ha hb fa fb (by rintro ⟨h, -⟩; rw [za] at h; exact absurd h (by decide))
  have NA := Lib.hid (refNan_any a ha false (fin_not fa).1)
  have NB := Lib.hid (refNan_any b hb false (fin_not fb).1)
  have IA := Lib.hid (refInf_any a ha false ((kind_inf a).trans (fin_not fa).2))
  have IB := Lib.hid (refInf_any b hb false ((kind_inf b).trans (fin_not fb).2))
  have ZA := Lib.hid (refZero_any a ha false ((kind_zero a).trans za))
  have OA := Lib.hid (fun W (hE : Ext w W) => refOf_any a ha W (hT.below hE))
  have OB := Lib.hid (fun W (hE : Ext w W) => refOf_any b hb W (hT.below hE))
  have HTT := Lib.hid (fun W (hE : Ext w W) => hT.below hE)
  generalize faddF a b mode = R at *
  generalize fdy a = da at *
  generalize fdy b = db at *
  have HS := Lib.hid hsum
  clear hsum hT fa fb ha hb za
  go_enter Tryz.func59, Tryz.ntmps59
  go_wp2_with (first | (go_at_call 71; (with_reducible refine (NA.out _).mono ?_); rintro e w' ⟨rfl, rfl⟩) | (go_at_call 71; (with_reducible refine (NB.out _).mono ?_); rintro e w' ⟨rfl, rfl⟩) | (go_at_call 139; (with_reducible refine (IA.out _).mono ?_); rintro e w' ⟨rfl, rfl⟩) | (go_at_call 139; (with_reducible refine (IB.out _).mono ?_); rintro e w' ⟨rfl, rfl⟩) | (go_at_call 83; (with_reducible refine (ZA.out _).mono ?_); rintro e w' ⟨rfl, rfl⟩))
  refine (OA.out _ (Below.refl _ _)).mono ?_
  rintro e w1 ⟨v, rfl, hv, hw1⟩
  go_wp2_with fail
  refine (OB.out _ hw1).mono ?_
  rintro e w2 ⟨u, rfl, hu, hw2⟩
  have h2 := Ext.trans hw1 hw2
  go_wp2_with fail
  refine (ref_dadd_any _ _ _ _ w2 (hv.ext hw2).dl hu.dl (HTT.out _ h2)).mono ?_
  rintro e w3 ⟨r, rfl, hr, hw3⟩
  have h3 := Ext.trans h2 hw3
  obtain ⟨rb, rn, ro, rk, rc, re, rfl⟩ := hr.parts
  clear hv hu hw1 hw2 h2 hw3
  go_upto_region 12 with fail
  obtain ⟨V, hV, hVB, hvx, hvz⟩ := dbox_new w3 rb rn ro rk rc re
  rw [← hV]
  clear hV
  have hr := hr.ext hVB
  have h4 := Ext.trans h3 hVB
  clear h3 hVB
  generalize w3.heap.size = C at *
  have k0 := hvx.c0
  have k1 := hvx.c1
  have k2 := hvx.c2
  have k3 := hvx.c3
  go_wp2_with fail
  refine (refDSign_any _ _ V hr.dl (HTT.out _ h4)).mono ?_
  rintro e w5 ⟨rfl, hw5⟩
  have hvx := hvx.below hw5
  have hr := hr.ext hw5
  have h5 := Ext.trans h4 hw5
  clear k0 k1 k2 k3 h4 hw5
  have k0 := hvx.c0
  have k1 := hvx.c1
  have k2 := hvx.c2
  have k3 := hvx.c3
  have HTw := Lib.hid (HTT.out _ h5)
  have hs := HS.out
  clear HS
  generalize dadd da db = d at *
  generalize sgn3 (dm d) 0 = q at *
  obtain ⟨rfl, hR⟩ | ⟨hq, hR⟩ := hs
  · subst hR
    have H5 := Lib.hid h5
    clear h5 hr
    go_wp2_with fail
    refine (refEmpty_any mode _).mono ?_
    rintro e w6 ⟨rfl, rfl⟩
    go_wp2
    go_ret
    exact ⟨rfl, H5.out⟩
  · have HR := Lib.hid hR
    clear hR
    go_wp2_with fail
    refine (refRound_any _ _ mode w5 hr.dl HTw.out).mono ?_
    rintro e w6 ⟨rfl, hw6⟩
    rw [← HR.out]
    have H6 := Lib.hid (Ext.trans h5 hw6)
    clear h5 hr hw6 HR hvx k0 k1 k2 k3
    go_wp2
    go_ret
    exact ⟨rfl, H6.out⟩

set_option maxRecDepth 100000 in
set_option maxHeartbeats 4000000 in
theorem refAdd_finZ (a b : Nat) (mode : Int) (ha : a < 18446744073709551616) (hb : b < 18446744073709551616) (fa : finB a = true) (fb : finB b = true) (za : zeroB a = true) (h : b ≠ a) (w : World) (hT : Table w) :
    Calls Tryz.prog 59 #[.int .u64 (a : Int), .int .u64 (b : Int), .int .i64 mode] w fun e w' => e = .returned (.int .u64 ((faddF a b mode : Nat) : Int)) ∧ Ext w w' := by
  have hsum := fadd_sum (mode := mode) ha hb fa fb (by rintro ⟨-, h'⟩; exact h h')
  have NA := Lib.hid (refNan_any a ha false (fin_not fa).1)
  have NB := Lib.hid (refNan_any b hb false (fin_not fb).1)
  have IA := Lib.hid (refInf_any a ha false ((kind_inf a).trans (fin_not fa).2))
  have IB := Lib.hid (refInf_any b hb false ((kind_inf b).trans (fin_not fb).2))
  have ZA := Lib.hid (refZero_any a ha true ((kind_zero a).trans za))
  have OA := Lib.hid (fun W (hE : Ext w W) => refOf_any a ha W (hT.below hE))
  have OB := Lib.hid (fun W (hE : Ext w W) => refOf_any b hb W (hT.below hE))
  have HTT := Lib.hid (fun W (hE : Ext w W) => hT.below hE)
  have hn : ¬ (a : Int) = (b : Int) := by omega
  clear h
  generalize faddF a b mode = R at *
  generalize fdy a = da at *
  generalize fdy b = db at *
  have HS := Lib.hid hsum
  clear hsum hT fa fb ha hb za
  go_enter Tryz.func59, Tryz.ntmps59
  go_wp2_with (first | (go_at_call 71; (with_reducible refine (NA.out _).mono ?_); rintro e w' ⟨rfl, rfl⟩) | (go_at_call 71; (with_reducible refine (NB.out _).mono ?_); rintro e w' ⟨rfl, rfl⟩) | (go_at_call 139; (with_reducible refine (IA.out _).mono ?_); rintro e w' ⟨rfl, rfl⟩) | (go_at_call 139; (with_reducible refine (IB.out _).mono ?_); rintro e w' ⟨rfl, rfl⟩) | (go_at_call 83; (with_reducible refine (ZA.out _).mono ?_); rintro e w' ⟨rfl, rfl⟩))
  refine (OA.out _ (Below.refl _ _)).mono ?_
  rintro e w1 ⟨v, rfl, hv, hw1⟩
  go_wp2_with fail
  refine (OB.out _ hw1).mono ?_
  rintro e w2 ⟨u, rfl, hu, hw2⟩
  have h2 := Ext.trans hw1 hw2
  go_wp2_with fail
  refine (ref_dadd_any _ _ _ _ w2 (hv.ext hw2).dl hu.dl (HTT.out _ h2)).mono ?_
  rintro e w3 ⟨r, rfl, hr, hw3⟩
  have h3 := Ext.trans h2 hw3
  obtain ⟨rb, rn, ro, rk, rc, re, rfl⟩ := hr.parts
  clear hv hu hw1 hw2 h2 hw3
  go_upto_region 12 with fail
  obtain ⟨V, hV, hVB, hvx, hvz⟩ := dbox_new w3 rb rn ro rk rc re
  rw [← hV]
  clear hV
  have hr := hr.ext hVB
  have h4 := Ext.trans h3 hVB
  clear h3 hVB
  generalize w3.heap.size = C at *
  have k0 := hvx.c0
  have k1 := hvx.c1
  have k2 := hvx.c2
  have k3 := hvx.c3
  go_wp2_with fail
  refine (refDSign_any _ _ V hr.dl (HTT.out _ h4)).mono ?_
  rintro e w5 ⟨rfl, hw5⟩
  have hvx := hvx.below hw5
  have hr := hr.ext hw5
  have h5 := Ext.trans h4 hw5
  clear k0 k1 k2 k3 h4 hw5
  have k0 := hvx.c0
  have k1 := hvx.c1
  have k2 := hvx.c2
  have k3 := hvx.c3
  have HTw := Lib.hid (HTT.out _ h5)
  have hs := HS.out
  clear HS
  generalize dadd da db = d at *
  generalize sgn3 (dm d) 0 = q at *
  obtain ⟨rfl, hR⟩ | ⟨hq, hR⟩ := hs
  · subst hR
    have H5 := Lib.hid h5
    clear h5 hr
    go_wp2_with fail
    refine (refEmpty_any mode _).mono ?_
    rintro e w6 ⟨rfl, rfl⟩
    go_wp2
    go_ret
    exact ⟨rfl, H5.out⟩
  · have HR := Lib.hid hR
    clear hR
    go_wp2_with fail
    refine (refRound_any _ _ mode w5 hr.dl HTw.out).mono ?_
    rintro e w6 ⟨rfl, hw6⟩
    rw [← HR.out]
    have H6 := Lib.hid (Ext.trans h5 hw6)
    clear h5 hr hw6 HR hvx k0 k1 k2 k3
    go_wp2
    go_ret
    exact ⟨rfl, H6.out⟩

theorem refFAdd_any (a b : Nat) (mode : Int) (ha : a < 18446744073709551616) (hb : b < 18446744073709551616) (w : World) (hT : Table w) :
    Calls Tryz.prog 59 #[.int .u64 (a : Int), .int .u64 (b : Int), .int .i64 mode] w fun e w' => e = .returned (.int .u64 ((faddF a b mode : Nat) : Int)) ∧ Ext w w' := by
  have fin : ∀ f, nanB f = false → infB f = false → finB f = true := fun f h1 h2 => by
    have h1 : ¬ 9218868437227405312 < fmag f := of_decide_eq_false h1
    have h2 : ¬ fmag f = 9218868437227405312 := of_decide_eq_false h2
    exact decide_eq_true (by omega)
  cases na : nanB a with
  | true => exact refAdd_nanA a b mode ha na w
  | false =>
    cases nb : nanB b with
    | true => exact refAdd_nanB a b mode ha hb na nb w
    | false =>
      cases ia : infB a with
      | true =>
        cases ib : infB b with
        | true =>
          by_cases h : b = a
          · subst h; exact refAdd_infS b mode ha ia w
          · exact refAdd_inf2 a b mode ha hb ia ib h w
        | false => exact refAdd_infA a b mode ha hb ia nb ib w
      | false =>
        cases ib : infB b with
        | true => exact refAdd_infB a b mode ha hb ib na ia w
        | false =>
          cases za : zeroB a with
          | false => exact refAdd_finN a b mode ha hb (fin a na ia) (fin b nb ib) za w hT
          | true =>
            by_cases h : b = a
            · subst h; exact refAdd_zeroS b mode ha za w
            · exact refAdd_finZ a b mode ha hb (fin a na ia) (fin b nb ib) za h w hT
end Go.Proofs.YtjohpdobnedilaaGreatDoor
