import Derived.Test.YtecaaklbhhjcjaaGreatDoorIRelU3
import Derived.Test.YtecaaklbhhjcjaaGreatDoorIRelU18
import Derived.Test.YtecaaklbhhjcjaaGreatDoorIRelU8
import Derived.Test.YtecaaklbhhjcjaaGreatDoorIRelU17
import Derived.Test.YtecaaklbhhjcjaaGreatDoorIRelU4
import Derived.Test.YtecaaklbhhjcjaaGreatDoorIRelU6
import Derived.Test.YtecaaklbhhjcjaaGreatDoorIRelU1
import Derived.Test.YtecaaklbhhjcjaaGreatDoorIRelU15
namespace Go.Proofs.YtecaaklbhhjcjaaGreatDoor
open Go.RowKit

/-- the table that bits.TrailingZeros64 reads -/
def Table64 (w : World) : Prop := TabAt 0 Lib.deBruijn64tab w
theorem Table64.below {w w' : World} (h : Table64 w) (hb : Below w.heap.size w w') : Table64 w' := by
  intro j hj
  have h1 := h j hj
  rw [hb.cell (p := ⟨_, j, none⟩) (lt_of_cell h1)]
  exact h1

set_option maxRecDepth 100000 in
set_option maxHeartbeats 1000000 in
theorem tz64_at (x k idx : Nat) (w : World) (hx0 : ((x : Int) == 0) = false)
    (key : IntKind.u64.wrap (bits BinOp.and IntKind.u64 (x : Int) (IntKind.u64.wrap (-(x : Int))) * 285870213051353865) / 288230376151711744 = (idx : Int))
    (hi : idx < 64) (hk : k < 64) (hcell : w.cell? ⟨0, idx, none⟩ = some (.int .u8 k)) :
    Calls Tryz.prog 179 #[.int .u64 x] w fun e w' => e = .returned (.int .i64 k) ∧ w = w' := by
  go_enter Tryz.func179, Tryz.ntmps179
  go_wp2_with (simp only [key])
  go_ret
  exact ⟨rfl, rfl⟩

theorem tz64_any (x : Nat) (h0 : x ≠ 0) (h1 : x < 18446744073709551616) (w : World) (hT : Table64 w) :
    Calls Tryz.prog 179 #[.int .u64 x] w fun e w' => ∃ t : Nat, e = .returned (.int .i64 (t : Int)) ∧ IsTz x t ∧ t < 64 ∧ w = w' := by
  obtain ⟨hlow, hk⟩ := Lib.lowest_bit 64 x h0 h1
  obtain ⟨hi, htab⟩ := Lib.deBruijn64_at _ hk
  have hcell := hT _ hi
  rw [htab] at hcell
  refine (tz64_at x _ _ w (by simp; omega) (tz64_key x _ h1 h0 hlow) hi hk hcell).mono fun e w' ⟨he, hw⟩ => ⟨_, he, ?_, hk, hw⟩
  have hc : Lib.ctz 64 x = Lib.ctzFrom 64 x := by unfold Lib.ctz; rw [if_neg h0]
  obtain ⟨m, hm, hlt⟩ := Lib.ctzFrom_spec 64 x (by omega) (by omega)
  rw [hc]
  exact Or.inr ⟨h0, m, hm⟩

set_option maxRecDepth 100000 in
set_option maxHeartbeats 4000000 in
theorem fof_any (f : Nat) (hf : f < 18446744073709551616) (w : World) (hT : Table64 w) :
    Calls Tryz.prog 103 #[.int .u64 (f : Int)] w fun e w' => ∃ v, e = .returned v ∧ Dn w' v (fdy f) ∧ Ext w w' := by
  have CF := Lib.hid (fun w => isFinite_any f hf w)
  have CZ := Lib.hid (fun w => isZero_any f hf w)
  have CS := Lib.hid (fun w => fsplit_any f hf w)
  have CN := Lib.hid (fun w => isNegative_any f hf w)
  have HT := Lib.hid hT
  clear hT
  cases hfin : finB f with
  | false =>
    rw [hfin] at CF
    have HD := Lib.hid (show fdy f = none by unfold fdy; rw [hfin]; rfl)
    clear hfin
    go_enter Tryz.func103, Tryz.ntmps103
    go_upto_region 1 with fail
    obtain ⟨W, hW, hB, r1, hz⟩ := dbox_new w false false none 0 0 0
    rw [← hW]
    clear hW
    generalize hBe : w.heap.size = B at *
    have HBe := Lib.hid hBe
    clear hBe hz
    go_wp2_with fail
    refine (CF.out _).mono ?_
    rintro e w1 ⟨rfl, rfl⟩
    have q0 := r1.c0
    have q1 := r1.c1
    have q2 := r1.c2
    have q3 := r1.c3
    have f0 := r1.f 0
    have f1 := r1.f 1
    have f2 := r1.f 2
    have f3 := r1.f 3
    have hres := dn_stored r1 (dn_bad W) w hB (Nat.le_refl _)
    have z3 := r1.stored true false none 0 0 0
    have z0 := z3.c0
    have z1 := z3.c1
    have z2 := z3.c2
    have z4 := z3.c3
    have HRES := Lib.hid hres; clear hres z3
    go_wp2
    refine bodyPost_ret (v := .agg #[.bool true, .bool false, .slice none 0 0, .int .i64 0]) (by simp [results, Tryz.results103, go_sem, z0, z1, z2, z4]) rfl ⟨_, rfl, ?_, ?_⟩
    · rw [HD.out]; exact HRES.out.1
    · show Below _ _ _; rw [HBe.out]; exact HRES.out.2
  | true =>
    rw [hfin] at CF
    cases hzr : zeroB f with
    | true =>
      rw [hzr] at CZ
      have HD := Lib.hid (fdy_zero hzr)
      clear hfin hzr
      go_enter Tryz.func103, Tryz.ntmps103
      go_upto_region 1 with fail
      obtain ⟨W, hW, hB, r1, hz⟩ := dbox_new w false false none 0 0 0
      rw [← hW]
      clear hW
      generalize hBe : w.heap.size = B at *
      have HBe := Lib.hid hBe
      clear hBe hz
      go_wp2_with fail
      refine (CF.out _).mono ?_
      rintro e w1 ⟨rfl, rfl⟩
      go_wp2_with fail
      refine (CZ.out _).mono ?_
      rintro e w1 ⟨rfl, rfl⟩
      have q0 := r1.c0
      have q1 := r1.c1
      have q2 := r1.c2
      have q3 := r1.c3
      have f0 := r1.f 0
      have f1 := r1.f 1
      have f2 := r1.f 2
      have f3 := r1.f 3
      have hres := dn_stored r1 (dn_zero W) w hB (Nat.le_refl _)
      have z3 := r1.stored false false none 0 0 0
      have z0 := z3.c0
      have z1 := z3.c1
      have z2 := z3.c2
      have z4 := z3.c3
      have HRES := Lib.hid hres; clear hres z3
      go_wp2
      refine bodyPost_ret (v := .agg #[.bool false, .bool false, .slice none 0 0, .int .i64 0]) (by simp [results, Tryz.results103, go_sem, z0, z1, z2, z4]) rfl ⟨_, rfl, ?_, ?_⟩
      · rw [HD.out]; exact HRES.out.1
      · show Below _ _ _; rw [HBe.out]; exact HRES.out.2
    | false =>
      rw [hzr] at CZ
      have hs0 : sig f ≠ 0 := fun h => by have h1 := (sig_zero f).1 h; unfold zeroB at hzr; rw [h1] at hzr; simp at hzr
      have hsl := sig_lt f
      have hsh : fsh f ≤ 2045 := by have h1 : fmag f < 9218868437227405312 := of_decide_eq_true hfin; unfold fsh ffld; omega
      have CT := Lib.hid (fun w (h : Table64 w) => tz64_any (sig f) hs0 (by omega) w h)
      have HP := Lib.hid (fun t (ht : IsTz (sig f) t) => fdy_parts hfin hs0 ht)
      clear hfin hzr hs0
      have HND := Lib.hid (show Nd (fdy f) by unfold fdy; split; exact dmk_nd _ _; trivial)
      generalize fdy f = d at *
      generalize fsh f = sh at *
      generalize sig f = z at *
      obtain ⟨ng, hng⟩ : ∃ ng, fneg f = ng := ⟨_, rfl⟩
      rw [hng] at HP CN
      clear hng
      go_enter Tryz.func103, Tryz.ntmps103
      go_upto_region 1 with fail
      obtain ⟨W, hW, hB, r1, hz⟩ := dbox_new w false false none 0 0 0
      rw [← hW]
      clear hW
      have HTW := Lib.hid (HT.out.below hB)
      generalize hBe : w.heap.size = B at *
      have HBe := Lib.hid hBe
      clear hBe
      go_wp2_with fail
      refine (CF.out _).mono ?_
      rintro e w1 ⟨rfl, rfl⟩
      go_wp2_with fail
      refine (CZ.out _).mono ?_
      rintro e w1 ⟨rfl, rfl⟩
      go_wp2_with fail
      refine (CS.out _).mono ?_
      rintro e w2 ⟨rfl, hE⟩
      have r2 := r1.below hE
      have b2 : Below B w w2 := hB.trans (Below.mono hE (by omega))
      have ht2 := HTW.out.below hE
      have hs2 := Below.size hE
      clear r1 hB hE
      go_upto_region 6 with fail
      obtain ⟨V, hV, hC, x3, hz3⟩ := nbox_new w2 0 (z : Int) (-1074 + (sh : Int)) false
      rw [← hV]
      clear hV
      have r3 := r2.below hC
      have b3 : Below B w V := b2.trans (Below.mono hC (by omega))
      have HT3 := Lib.hid (ht2.below hC)
      have hBC : B ≠ w2.heap.size := by omega
      generalize w2.heap.size = C at *
      clear r2 b2 ht2 hs2 hC hz3 hz
      have c1 := x3.c1
      have c2 := x3.c2
      go_wp2_with fail
      refine (CT.out _ HT3.out).mono ?_
      rintro e w3 ⟨t, rfl, ht, ht64, rfl⟩
      obtain ⟨hd, hm1, hm0⟩ := HP.out t ht
      have hsr : (z : Int) / 2 ^ t = ((z / 2 ^ t : Nat) : Int) := (cast_divpow _ _).symm
      generalize z / 2 ^ t = y at *
      have hwy : IntKind.i64.wrap (y : Int) = (y : Int) := by rw [IntKind.wrap_i64]; omega
      have HDD := Lib.hid hd
      have HT3 := Lib.hid ht
      clear hd HP ht
      have hsum : IntKind.i64.wrap (-1074 + (sh : Int) + (t : Int)) = -1074 + (sh : Int) + (t : Int) := by rw [IntKind.wrap_i64]; omega
      cases ng with
      | false =>
        simp only [Bool.false_eq_true, if_false] at HDD
        go_wp2_with fail
        refine (CN.out _).mono ?_
        rintro e w4 ⟨rfl, rfl⟩
        go_upto_region 10 with fail
        go_region_with (go_at_call 53; refine (fromInt_any ((y : Int)) _ (by omega) (by omega)).mono ?_; rintro e w5 ⟨nr, ro, k, cr, rfl, hbn, hE5⟩; have x5 := (NBox.drew x3).below hE5; have r5 := (DBox.drew r3).below hE5; have b5 : Below B w w5 := Below.trans (Below.drew b3) (Below.mono hE5 (by have := r3.lt; simp; omega)); have c1 := x5.c1; have c2 := x5.c2; have f0 := r5.f 0; have f1 := r5.f 1; have f2 := r5.f 2; have f3 := r5.f 3; have q0 := r5.c0; have q1 := r5.c1; have q2 := r5.c2; have q3 := r5.c3)
        all_goals
          have hdn : Dn w5 (.agg #[.bool false, .bool nr, .slice ro k cr, .int .i64 (-1074 + (sh : Int) + (t : Int))]) d := by
            rw [HDD.out]
            refine Dn.put (by rw [← HDD.out]; exact HND.out) rfl rfl hbn
          have hres := dn_stored r5 hdn w b5 (Nat.le_refl _)
          have z3 := r5.stored false nr ro k cr (-1074 + (sh : Int) + (t : Int))
          have z0 := z3.c0
          have z1 := z3.c1
          have z2 := z3.c2
          have z4 := z3.c3
          have HRES := Lib.hid hres
          clear hres z3 hdn c1 c2 x5 r5 b5
          go_wp2
          refine bodyPost_ret (v := .agg #[.bool false, .bool nr, .slice ro k cr, .int .i64 (-1074 + (sh : Int) + (t : Int))]) (by simp [results, Tryz.results103, go_sem, z0, z1, z2, z4]) rfl ⟨_, rfl, ?_, ?_⟩
          · exact HRES.out.1
          · show Below _ _ _
            rw [HBe.out]
            exact HRES.out.2
      | true =>
        simp only [if_true] at HDD
        go_wp2_with fail
        refine (CN.out _).mono ?_
        rintro e w4 ⟨rfl, rfl⟩
        go_upto_region 10 with fail
        go_region_with (go_at_call 53; refine (fromInt_any (-(y : Int)) _ (by omega) (by omega)).mono ?_; rintro e w5 ⟨nr, ro, k, cr, rfl, hbn, hE5⟩; have x5 := (NBox.drew x3).below hE5; have r5 := (DBox.drew r3).below hE5; have b5 : Below B w w5 := Below.trans (Below.drew b3) (Below.mono hE5 (by have := r3.lt; simp; omega)); have c1 := x5.c1; have c2 := x5.c2; have f0 := r5.f 0; have f1 := r5.f 1; have f2 := r5.f 2; have f3 := r5.f 3; have q0 := r5.c0; have q1 := r5.c1; have q2 := r5.c2; have q3 := r5.c3)
        all_goals
          have hdn : Dn w5 (.agg #[.bool false, .bool nr, .slice ro k cr, .int .i64 (-1074 + (sh : Int) + (t : Int))]) d := by
            rw [HDD.out]
            refine Dn.put (by rw [← HDD.out]; exact HND.out) rfl rfl hbn
          have hres := dn_stored r5 hdn w b5 (Nat.le_refl _)
          have z3 := r5.stored false nr ro k cr (-1074 + (sh : Int) + (t : Int))
          have z0 := z3.c0
          have z1 := z3.c1
          have z2 := z3.c2
          have z4 := z3.c3
          have HRES := Lib.hid hres
          clear hres z3 hdn c1 c2 x5 r5 b5
          go_wp2
          refine bodyPost_ret (v := .agg #[.bool false, .bool nr, .slice ro k cr, .int .i64 (-1074 + (sh : Int) + (t : Int))]) (by simp [results, Tryz.results103, go_sem, z0, z1, z2, z4]) rfl ⟨_, rfl, ?_, ?_⟩
          · exact HRES.out.1
          · show Below _ _ _
            rw [HBe.out]
            exact HRES.out.2
end Go.Proofs.YtecaaklbhhjcjaaGreatDoor

namespace Go.Proofs.YtecaaklbhhjcjaaGreatDoor
open Go.ChangeShapes Go.WideShapes Go.ChangeAt Go.RowKit Go.Joins Go.Deep

theorem laid_tail {P : Program} {W : World} {x : String × DataW Unit} {rest : List (String × DataW Unit)} (h : laidMet P (x :: rest) W) : laidMet P rest W := by
  obtain ⟨ps, ⟨g', t', cs, fuel, p, q, _, _, _, _, hq, rfl⟩, hn, hc⟩ := h
  exact ⟨q, hq, (List.nodup_append.1 hn).2.1, fun b off hm => hc b off (List.mem_append_right _ hm)⟩

theorem table64_of {x : String × DataW Unit} {rest : List (String × DataW Unit)} {W : World} (h : laidMet Tryz.prog (x :: ("math/bits.deBruijn64tab", Rows.laid_math_bits_deBruijn64tab) :: rest) W) : Table64 W := by
  have h1 : Lib.TabIs Tryz.prog W "math/bits.deBruijn64tab" .u8 (Lib.deBruijn64tab.map fun (n : Nat) => (n : Int)) :=
    Lib.tabIs_of_head (g := 0) (t := 177) (e := 5) (n := 64) (rest := rest) (by kernel_rfl) (by kernel_rfl) (by kernel_rfl) (by kernel_rfl) (by kernel_rfl) (by kernel_rfl) (laid_tail h)
  intro j hj
  have h2 := h1.cell (g := 0) (by kernel_rfl) j (by simpa using hj)
  rw [h2]
  simp [List.getD, hj]
end Go.Proofs.YtecaaklbhhjcjaaGreatDoor

namespace Go.Proofs.YtecaaklbhhjcjaaGreatDoor
open Go.RowKit

theorem kind_fields {f q r : Nat} (hq : f / 4503599627370496 % 2048 = q) (hr : f % 4503599627370496 = r) : fmag f = q * 4503599627370496 + r ∧ q < 2048 ∧ r < 4503599627370496 := by
  unfold fmag
  omega
theorem and_fields (f : Nat) (hf : f < 18446744073709551616) : bits BinOp.and IntKind.u64 ((f : Int) / 4503599627370496) 2047 = ((f / 4503599627370496 % 2048 : Nat) : Int) ∧ bits BinOp.and IntKind.u64 (f : Int) 4503599627370495 = ((f % 4503599627370496 : Nat) : Int) := by
  have h1 : (f : Int) / 4503599627370496 = ((f / 4503599627370496 : Nat) : Int) := (Int.natCast_ediv _ _).symm
  have h2 := bits_and_u64_nat (f / 4503599627370496) 2047 (by omega) (by omega)
  rw [show (2047 : Nat) = 2 ^ 11 - 1 from rfl, Nat.and_two_pow_sub_one_eq_mod] at h2
  have h3 := bits_and_u64_nat f 4503599627370495 (by omega) (by omega)
  rw [show (4503599627370495 : Nat) = 2 ^ 52 - 1 from rfl, Nat.and_two_pow_sub_one_eq_mod] at h3
  rw [h1]
  exact ⟨h2, h3⟩

set_option maxRecDepth 100000 in
set_option maxHeartbeats 1000000 in
theorem refKind_any (f : Nat) (hf : f < 18446744073709551616) (w : World) :
    Calls Tryz.prog 206 #[.int .u64 (f : Int)] w fun e w' => e = .returned (.int .i64 (fkind f)) ∧ w = w' := by
  obtain ⟨h1, h2⟩ := and_fields f hf
  obtain ⟨q, hq⟩ : ∃ q : Nat, f / 4503599627370496 % 2048 = q := ⟨_, rfl⟩
  obtain ⟨r, hr⟩ : ∃ r : Nat, f % 4503599627370496 = r := ⟨_, rfl⟩
  obtain ⟨hm, hq', hr'⟩ := kind_fields hq hr
  rw [hq] at h1
  rw [hr] at h2
  have hk := fkind_cases f
  rw [hm] at hk
  generalize fkind f = k at *
  clear hq hr hm hf
  by_cases c1 : q = 2047
  · have b1 : ((q : Int) == 2047) = true := by rw [beq_iff_eq]; omega
    by_cases c2 : r = 0
    · obtain rfl : k = 2 := by omega
      have b2 : ((r : Int) != 0) = false := by simp; omega
      clear hk c1 c2 hq' hr'
      go_enter Tryz.func206, Tryz.ntmps206
      go_wp2
      go_ret
      exact ⟨rfl, rfl⟩
    · obtain rfl : k = 3 := by omega
      have b2 : ((r : Int) != 0) = true := by simp; omega
      clear hk c1 c2 hq' hr'
      go_enter Tryz.func206, Tryz.ntmps206
      go_wp2
      go_ret
      exact ⟨rfl, rfl⟩
  · have b1 : ((q : Int) == 2047) = false := by rw [beq_eq_false_iff_ne]; omega
    by_cases c2 : q = 0
    · have b3 : ((q : Int) == 0) = true := by rw [beq_iff_eq]; omega
      by_cases c3 : r = 0
      · obtain rfl : k = 0 := by omega
        have b4 : ((r : Int) == 0) = true := by rw [beq_iff_eq]; omega
        clear hk c1 c2 c3 hq' hr'
        go_enter Tryz.func206, Tryz.ntmps206
        go_wp2
        go_ret
        exact ⟨rfl, rfl⟩
      · obtain rfl : k = 1 := by omega
        have b4 : ((r : Int) == 0) = false := by rw [beq_eq_false_iff_ne]; omega
        clear hk c1 c2 c3 hq' hr'
        go_enter Tryz.func206, Tryz.ntmps206
        go_wp2
        go_ret
        exact ⟨rfl, rfl⟩
    · obtain rfl : k = 1 := by omega
      have b3 : ((q : Int) == 0) = false := by rw [beq_eq_false_iff_ne]; omega
      clear hk c1 c2 hq' hr'
      go_enter Tryz.func206, Tryz.ntmps206
      go_wp2
      go_ret
      exact ⟨rfl, rfl⟩

theorem kind_nan (f : Nat) : (fkind f == 3) = nanB f := by
  have h := fkind_cases f
  unfold nanB
  generalize fkind f = k at *
  generalize fmag f = m at *
  by_cases h1 : 9218868437227405312 < m
  · rw [decide_eq_true h1, beq_iff_eq]; omega
  · rw [decide_eq_false h1, beq_eq_false_iff_ne]; omega

set_option maxRecDepth 100000 in
theorem refNan_any (f : Nat) (hf : f < 18446744073709551616) (b : Bool) (hb : nanB f = b) (w : World) :
    Calls Tryz.prog 150 #[.int .u64 (f : Int)] w fun e w' => e = .returned (.bool b) ∧ w = w' := by
  have hk := kind_nan f
  rw [hb] at hk
  have HK := Lib.hid hk
  clear hk hb
  go_enter Tryz.func150, Tryz.ntmps150
  go_wp2_with fail
  refine (refKind_any f hf _).mono ?_
  rintro e w' ⟨rfl, rfl⟩
  go_wp2
  go_ret
  exact ⟨ret_bool HK.out, rfl⟩

set_option maxRecDepth 100000 in
theorem refMinus_any (f : Nat) (hf : f < 18446744073709551616) (b : Bool) (hb : fneg f = b) (w : World) :
    Calls Tryz.prog 167 #[.int .u64 (f : Int)] w fun e w' => e = .returned (.bool b) ∧ w = w' := by
  have ha := and_sign hf
  rw [hb] at ha
  clear hb
  cases b
  all_goals
    unfold sgz at ha
    simp only [if_true, Bool.false_eq_true, if_false] at ha
    go_enter Tryz.func167, Tryz.ntmps167
    go_wp2
    go_ret
    exact ⟨ret_bool (by first | rfl | decide | simp), rfl⟩

set_option maxRecDepth 100000 in
theorem refKey_any (f : Nat) (hf : f < 18446744073709551616) (r : Int) (hr : frank f = r) (w : World) :
    Calls Tryz.prog 151 #[.int .u64 (f : Int)] w fun e w' => e = .returned (.int .i64 r) ∧ w = w' := by
  have ha := andNot_sign hf
  have hm := fmag_lt f
  have hp := f_parts hf
  unfold frank at hr
  cases hn : fneg f
  · rw [hn] at hr hp
    have C := Lib.hid (refMinus_any f hf false hn)
    simp only [Bool.false_eq_true, if_false] at hr
    have hp : f = fmag f := by unfold sgz at hp; simpa using hp
    have hv : (f : Int) = r := by rw [← hr, ← hp]
    have hr0 : 0 ≤ r := by omega
    have hr1 : r < 9223372036854775808 := by omega
    rw [hv] at C ⊢
    clear ha hm hp hr hn hf hv
    go_enter Tryz.func151, Tryz.ntmps151
    go_wp2_with fail
    refine (C.out _).mono ?_
    rintro e w' ⟨rfl, rfl⟩
    go_wp2
    go_ret
    exact ⟨rfl, rfl⟩
  · rw [hn] at hr
    have C := Lib.hid (refMinus_any f hf true hn)
    simp only [if_true] at hr
    subst hr
    generalize fmag f = m at *
    clear hp hn hf
    go_enter Tryz.func151, Tryz.ntmps151
    go_wp2_with fail
    refine (C.out _).mono ?_
    rintro e w' ⟨rfl, rfl⟩
    go_wp2
    go_ret
    exact ⟨ret_int (by first | rfl | simp | (simp; omega)), rfl⟩

set_option maxRecDepth 100000 in
set_option maxHeartbeats 2000000 in
theorem refFCmp_any (a b : Nat) (ha : a < 18446744073709551616) (hb : b < 18446744073709551616) (s : Int) (ok : Bool) (h : FcmpOut a b s ok) (w : World) :
    Calls Tryz.prog 73 #[.int .u64 (a : Int), .int .u64 (b : Int)] w fun e w' => e = .returned (.tuple #[.int .i64 s, .bool ok]) ∧ Ext w w' := by
  unfold FcmpOut at h
  obtain ⟨na, hna⟩ : ∃ na, nanB a = na := ⟨_, rfl⟩
  obtain ⟨nb, hnb⟩ : ∃ nb, nanB b = nb := ⟨_, rfl⟩
  have CA := Lib.hid (refNan_any a ha na hna)
  have CB := Lib.hid (refNan_any b hb nb hnb)
  obtain ⟨x, hx⟩ : ∃ x, frank a = x := ⟨_, rfl⟩
  obtain ⟨y, hy⟩ : ∃ y, frank b = y := ⟨_, rfl⟩
  have KA := Lib.hid (refKey_any a ha x hx)
  have KB := Lib.hid (refKey_any b hb y hy)
  rw [hna, hnb, hx, hy] at h
  clear hna hnb hx hy ha hb
  cases na with
  | true =>
    simp only [Bool.true_or, if_true] at h
    obtain ⟨rfl, rfl⟩ := h
    go_enter Tryz.func73, Tryz.ntmps73
    go_wp2_with fail
    refine (CA.out _).mono ?_
    rintro e w' ⟨rfl, rfl⟩
    go_wp2
    go_ret2
    exact ⟨rfl, Below.refl _ _⟩
  | false =>
    cases nb with
    | true =>
      simp only [Bool.false_or, if_true] at h
      obtain ⟨rfl, rfl⟩ := h
      go_enter Tryz.func73, Tryz.ntmps73
      go_wp2_with fail
      refine (CA.out _).mono ?_
      rintro e w' ⟨rfl, rfl⟩
      go_wp2_with fail
      refine (CB.out _).mono ?_
      rintro e w' ⟨rfl, rfl⟩
      go_wp2
      go_ret2
      exact ⟨rfl, Below.refl _ _⟩
    | false =>
      simp only [Bool.or_self, Bool.false_eq_true, if_false] at h
      obtain ⟨hs, rfl⟩ := h
      obtain ⟨c, d, e⟩ | ⟨c, d, e⟩ | ⟨c, d, e⟩ : (x < y ∧ ¬ y < x ∧ s = -1) ∨ (¬ x < y ∧ y < x ∧ s = 1) ∨ (¬ x < y ∧ ¬ y < x ∧ s = 0) := by
        rw [hs]; unfold sgn3; split
        · omega
        · split <;> omega
      all_goals
        subst e
        clear hs
        go_enter Tryz.func73, Tryz.ntmps73
        go_wp2_with fail
        refine (CA.out _).mono ?_
        rintro e w' ⟨rfl, rfl⟩
        go_wp2_with fail
        refine (CB.out _).mono ?_
        rintro e w' ⟨rfl, rfl⟩
        go_wp2_with (first | (go_at_call 151; (with_reducible refine (KA.out _).mono ?_); rintro e w' ⟨rfl, rfl⟩) | (go_at_call 151; (with_reducible refine (KB.out _).mono ?_); rintro e w' ⟨rfl, rfl⟩))
        go_ret2
        exact ⟨rfl, Below.refl _ _⟩
end Go.Proofs.YtecaaklbhhjcjaaGreatDoor
