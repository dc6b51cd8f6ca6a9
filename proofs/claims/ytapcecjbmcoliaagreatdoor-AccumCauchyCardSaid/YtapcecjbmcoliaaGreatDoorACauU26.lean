import Derived.Test.YtapcecjbmcoliaaGreatDoorACauU24
import Derived.Deep.CutBlock
import Derived.Test.YtapcecjbmcoliaaGreatDoorACauU25
import Derived.Test.YtapcecjbmcoliaaGreatDoorACauU20
import Derived.Test.YtapcecjbmcoliaaGreatDoorACauU5
import Derived.Test.YtapcecjbmcoliaaGreatDoorACauU8
import Derived.Test.YtapcecjbmcoliaaGreatDoorACauU11
import Derived.Test.YtapcecjbmcoliaaGreatDoorACauU22
import Derived.Test.YtapcecjbmcoliaaGreatDoorACauU9
import Derived.Test.YtapcecjbmcoliaaGreatDoorACauU2
namespace Go.Proofs.YtapcecjbmcoliaaGreatDoor

/-- the multiples of 2^(k+1) around x, which is none of them -/
structure Around (x : Int) (p k : Nat) (q r : Int) : Prop where
  eq : x = q * 2 ^ (k + 1) + r
  pos : 0 < r
  lt : r < 2 ^ (k + 1)
  lo : -2 ^ p ≤ q
  hi : q + 1 ≤ 2 ^ p

theorem is_cmp {d d' : Dy} {S : Nat} {N M : Int} (h : Is d S N) (h' : Is d' S M) (hS : S ≤ 65536) : sgn3 (sc d) (sc d') = sgn3 N M := by
  rw [sc_is h hS, sc_is h' hS]
  exact sgn3_common
end Go.Proofs.YtapcecjbmcoliaaGreatDoor

namespace Go.Proofs.YtapcecjbmcoliaaGreatDoor
open Go.RowKit

/-- a float's number -/
def fdy (f : Nat) : Dy := if finB f then dmk (fzs f) (-1074) else none

/-- its parts -/
theorem fdy_parts {f t : Nat} (hf : finB f = true) (h0 : sig f ≠ 0) (ht : IsTz (sig f) t) : fdy f = some (if fneg f then -((sig f / 2 ^ t : Nat) : Int) else ((sig f / 2 ^ t : Nat) : Int), -1074 + (fsh f : Int) + t) ∧ sig f / 2 ^ t < 9007199254740992 ∧ sig f / 2 ^ t ≠ 0 := by
  rcases ht with ⟨h, _⟩ | ⟨_, m, hm⟩
  · exact absurd h h0
  · have hp : 0 < 2 ^ t := Nat.pow_pos (by omega)
    have hd : sig f / 2 ^ t = 2 * m + 1 := by rw [hm, Nat.mul_div_cancel_left _ hp]
    have hlt : sig f / 2 ^ t < 9007199254740992 := Nat.lt_of_le_of_lt (Nat.div_le_self _ _) (sig_lt f)
    refine ⟨?_, hlt, by omega⟩
    rw [hd] at hlt ⊢
    have hfin : fmag f < 9218868437227405312 := of_decide_eq_true hf
    have hsh : fsh f ≤ 2045 := by unfold fsh ffld; omega
    have ht52 : t < 53 := by
      have h1 : 2 ^ t < 2 ^ 53 := by
        have h2 : 2 ^ t ≤ sig f := by rw [hm]; exact Nat.le_mul_of_pos_right _ (by omega)
        exact Nat.lt_of_le_of_lt h2 (sig_lt f)
      exact (Nat.pow_lt_pow_iff_right (by omega)).1 h1
    have hz : fz f = (2 * m + 1) * 2 ^ (t + fsh f) := by rw [Nat.pow_add, ← Nat.mul_assoc, Nat.mul_comm (2 * m + 1), ← hm]; rfl
    have hc : ((fz f : Nat) : Int) = ((2 * m + 1 : Nat) : Int) * 2 ^ (t + fsh f) := by rw [hz, Int.natCast_mul, Int.natCast_pow]; rfl
    have hv : fzs f = (if fneg f then -((2 * m + 1 : Nat) : Int) else ((2 * m + 1 : Nat) : Int)) * 2 ^ (t + fsh f) := by
      unfold fzs
      rw [hc]
      cases fneg f
      · rfl
      · simp only [if_true]; rw [Int.neg_mul]
    have hb : blen (2 * m + 1) ≤ 53 := blen_le_of_lt (show 2 * m + 1 < 2 ^ 53 from hlt)
    unfold fdy
    rw [hf, if_pos rfl, hv, dmk_shift]
    rw [show (-1074 : Int) + ((t + fsh f : Nat) : Int) = -1074 + (fsh f : Int) + t by omega]
    refine dmk_norm (Or.inr ⟨?_, by omega, ?_⟩)
    · split <;> omega
    · have e1 : (if fneg f then -((2 * m + 1 : Nat) : Int) else ((2 * m + 1 : Nat) : Int)).natAbs = 2 * m + 1 := by split <;> omega
      rw [e1]
      omega

theorem fdy_zero {f : Nat} (h : zeroB f = true) : fdy f = some (0, 0) := by
  have h1 : fmag f = 0 := of_decide_eq_true h
  have h2 : fz f = 0 := (fz_zero f).2 h1
  unfold fdy finB fzs
  rw [decide_eq_true (by omega), if_pos rfl, h2]
  have : (if fneg f then -((0 : Nat) : Int) else ((0 : Nat) : Int)) = 0 := by split <;> rfl
  rw [this, dmk_zero]

theorem fz_bound {f : Nat} (h : finB f = true) : fz f < 2 ^ (52 + low46) := by
  rw [Nat.pow_add, ← fz_inf, ← fz_mag f]
  exact fz_lt (of_decide_eq_true h) (Nat.le_refl _)
theorem low46_le : 52 + low46 = 2098 := rfl
theorem fzs_abs (f : Nat) : (fzs f).natAbs = fz f := by unfold fzs; split <;> omega
theorem fdy_is {f : Nat} (h : finB f = true) : Is (fdy f) 1074 (fzs f) := by
  unfold fdy
  rw [h, if_pos rfl]
  exact Is.of_dmk (S := 1074) (B := 52 + low46) (by omega) (by rw [fzs_abs]; exact fz_bound h) (by rw [low46_le]; omega)

/-- two numbers of floats compare as the floats do -/
theorem fin_nan {f : Nat} (h : finB f = true) : nanB f = false := by
  have h1 : fmag f < 9218868437227405312 := of_decide_eq_true h
  exact decide_eq_false (by omega)
end Go.Proofs.YtapcecjbmcoliaaGreatDoor

namespace Go.Proofs.YtapcecjbmcoliaaGreatDoor
open Go.RowKit

set_option maxRecDepth 100000 in
set_option maxHeartbeats 4000000 in
theorem fof_any (f : Nat) (hf : f < 18446744073709551616) (w : World) (hT : Table64 w) :
    Calls Tryz.prog 18 #[.int .u64 (f : Int)] w fun e w' => ∃ v, e = .returned v ∧ Dn w' v (fdy f) ∧ Ext w w' := by
  have CF := Lib.hid (fun w => isFinite_any f hf w)
  have CZ := Lib.hid (fun w => isZero_any f hf w)
  have CS := Lib.hid (fun w => fsplit_any f hf w)
  have CN := Lib.hid (fun w => isNegative_any f hf w)
  have HT := Lib.hid hT
  clear hT
  cases hfin : finB f with
  | false =>
    rw [hfin] at CF
    have HD := Lib.hid (show fdy f = none by unfold fdy; rw [hfin]; rfl)
    clear hfin
    go_enter Tryz.func18, Tryz.ntmps18
    go_upto_region 1 with fail
    obtain ⟨W, hW, hB, r1, hz⟩ := dbox_new w false false none 0 0 0
    rw [← hW]
    clear hW
    generalize hBe : w.heap.size = B at *
    have HBe := Lib.hid hBe
    clear hBe hz
    go_wp2_with fail
    refine (CF.out _).mono ?_
    rintro e w1 ⟨rfl, rfl⟩
    have q0 := r1.c0
    have q1 := r1.c1
    have q2 := r1.c2
    have q3 := r1.c3
    have f0 := r1.f 0
    have f1 := r1.f 1
    have f2 := r1.f 2
    have f3 := r1.f 3
    have hres := dn_stored r1 (dn_bad W) w hB (Nat.le_refl _)
    have z3 := r1.stored true false none 0 0 0
    have z0 := z3.c0
    have z1 := z3.c1
    have z2 := z3.c2
    have z4 := z3.c3
    have HRES := Lib.hid hres; clear hres z3
    go_wp2
    refine bodyPost_ret (v := .agg #[.bool true, .bool false, .slice none 0 0, .int .i64 0]) (by simp [results, Tryz.results18, go_sem, z0, z1, z2, z4]) rfl ⟨_, rfl, ?_, ?_⟩
    · rw [HD.out]; exact HRES.out.1
    · show Below _ _ _; rw [HBe.out]; exact HRES.out.2
  | true =>
    rw [hfin] at CF
    cases hzr : zeroB f with
    | true =>
      rw [hzr] at CZ
      have HD := Lib.hid (fdy_zero hzr)
      clear hfin hzr
      go_enter Tryz.func18, Tryz.ntmps18
      go_upto_region 1 with fail
      obtain ⟨W, hW, hB, r1, hz⟩ := dbox_new w false false none 0 0 0
      rw [← hW]
      clear hW
      generalize hBe : w.heap.size = B at *
      have HBe := Lib.hid hBe
      clear hBe hz
      go_wp2_with fail
      refine (CF.out _).mono ?_
      rintro e w1 ⟨rfl, rfl⟩
      go_wp2_with fail
      refine (CZ.out _).mono ?_
      rintro e w1 ⟨rfl, rfl⟩
      have q0 := r1.c0
      have q1 := r1.c1
      have q2 := r1.c2
      have q3 := r1.c3
      have f0 := r1.f 0
      have f1 := r1.f 1
      have f2 := r1.f 2
      have f3 := r1.f 3
      have hres := dn_stored r1 (dn_zero W) w hB (Nat.le_refl _)
      have z3 := r1.stored false false none 0 0 0
      have z0 := z3.c0
      have z1 := z3.c1
      have z2 := z3.c2
      have z4 := z3.c3
      have HRES := Lib.hid hres; clear hres z3
      go_wp2
      refine bodyPost_ret (v := .agg #[.bool false, .bool false, .slice none 0 0, .int .i64 0]) (by simp [results, Tryz.results18, go_sem, z0, z1, z2, z4]) rfl ⟨_, rfl, ?_, ?_⟩
      · rw [HD.out]; exact HRES.out.1
      · show Below _ _ _; rw [HBe.out]; exact HRES.out.2
    | false =>
      rw [hzr] at CZ
      have hs0 : sig f ≠ 0 := fun h => by have h1 := (sig_zero f).1 h; unfold zeroB at hzr; rw [h1] at hzr; simp at hzr
      have hsl := sig_lt f
      have hsh : fsh f ≤ 2045 := by have h1 : fmag f < 9218868437227405312 := of_decide_eq_true hfin; unfold fsh ffld; omega
      have CT := Lib.hid (fun w (h : Table64 w) => tz64_any (sig f) hs0 (by omega) w h)
      have HP := Lib.hid (fun t (ht : IsTz (sig f) t) => fdy_parts hfin hs0 ht)
      clear hfin hzr hs0
      have HND := Lib.hid (show Nd (fdy f) by unfold fdy; split; exact dmk_nd _ _; trivial)
      generalize fdy f = d at *
      generalize fsh f = sh at *
      generalize sig f = z at *
      obtain ⟨ng, hng⟩ : ∃ ng, fneg f = ng := ⟨_, rfl⟩
      rw [hng] at HP CN
      clear hng
      go_enter Tryz.func18, Tryz.ntmps18
      go_upto_region 1 with fail
      obtain ⟨W, hW, hB, r1, hz⟩ := dbox_new w false false none 0 0 0
      rw [← hW]
      clear hW
      have HTW := Lib.hid (HT.out.below hB)
      generalize hBe : w.heap.size = B at *
      have HBe := Lib.hid hBe
      clear hBe
      go_wp2_with fail
      refine (CF.out _).mono ?_
      rintro e w1 ⟨rfl, rfl⟩
      go_wp2_with fail
      refine (CZ.out _).mono ?_
      rintro e w1 ⟨rfl, rfl⟩
      go_wp2_with fail
      refine (CS.out _).mono ?_
      rintro e w2 ⟨rfl, hE⟩
      have r2 := r1.below hE
      have b2 : Below B w w2 := hB.trans (Below.mono hE (by omega))
      have ht2 := HTW.out.below hE
      have hs2 := Below.size hE
      clear r1 hB hE
      go_upto_region 6 with fail
      obtain ⟨V, hV, hC, x3, hz3⟩ := nbox_new w2 0 (z : Int) (-1074 + (sh : Int)) false
      rw [← hV]
      clear hV
      have r3 := r2.below hC
      have b3 : Below B w V := b2.trans (Below.mono hC (by omega))
      have HT3 := Lib.hid (ht2.below hC)
      have hBC : B ≠ w2.heap.size := by omega
      generalize w2.heap.size = C at *
      clear r2 b2 ht2 hs2 hC hz3 hz
      have c1 := x3.c1
      have c2 := x3.c2
      go_wp2_with fail
      refine (CT.out _ HT3.out).mono ?_
      rintro e w3 ⟨t, rfl, ht, ht64, rfl⟩
      obtain ⟨hd, hm1, hm0⟩ := HP.out t ht
      have hsr : (z : Int) / 2 ^ t = ((z / 2 ^ t : Nat) : Int) := (cast_divpow _ _).symm
      generalize z / 2 ^ t = y at *
      have hwy : IntKind.i64.wrap (y : Int) = (y : Int) := by rw [IntKind.wrap_i64]; omega
      have HDD := Lib.hid hd
      have HT3 := Lib.hid ht
      clear hd HP ht
      have hsum : IntKind.i64.wrap (-1074 + (sh : Int) + (t : Int)) = -1074 + (sh : Int) + (t : Int) := by rw [IntKind.wrap_i64]; omega
      cases ng with
      | false =>
        simp only [Bool.false_eq_true, if_false] at HDD
        go_wp2_with fail
        refine (CN.out _).mono ?_
        rintro e w4 ⟨rfl, rfl⟩
        go_upto_region 10 with fail
        go_region_with (go_at_call 44; refine (fromInt_any ((y : Int)) _ (by omega) (by omega)).mono ?_; rintro e w5 ⟨nr, ro, k, cr, rfl, hbn, hE5⟩; have x5 := (NBox.drew x3).below hE5; have r5 := (DBox.drew r3).below hE5; have b5 : Below B w w5 := Below.trans (Below.drew b3) (Below.mono hE5 (by have := r3.lt; simp; omega)); have c1 := x5.c1; have c2 := x5.c2; have f0 := r5.f 0; have f1 := r5.f 1; have f2 := r5.f 2; have f3 := r5.f 3; have q0 := r5.c0; have q1 := r5.c1; have q2 := r5.c2; have q3 := r5.c3)
        all_goals
          have hdn : Dn w5 (.agg #[.bool false, .bool nr, .slice ro k cr, .int .i64 (-1074 + (sh : Int) + (t : Int))]) d := by
            rw [HDD.out]
            refine Dn.put (by rw [← HDD.out]; exact HND.out) rfl rfl hbn
          have hres := dn_stored r5 hdn w b5 (Nat.le_refl _)
          have z3 := r5.stored false nr ro k cr (-1074 + (sh : Int) + (t : Int))
          have z0 := z3.c0
          have z1 := z3.c1
          have z2 := z3.c2
          have z4 := z3.c3
          have HRES := Lib.hid hres
          clear hres z3 hdn c1 c2 x5 r5 b5
          go_wp2
          refine bodyPost_ret (v := .agg #[.bool false, .bool nr, .slice ro k cr, .int .i64 (-1074 + (sh : Int) + (t : Int))]) (by simp [results, Tryz.results18, go_sem, z0, z1, z2, z4]) rfl ⟨_, rfl, ?_, ?_⟩
          · exact HRES.out.1
          · show Below _ _ _
            rw [HBe.out]
            exact HRES.out.2
      | true =>
        simp only [if_true] at HDD
        go_wp2_with fail
        refine (CN.out _).mono ?_
        rintro e w4 ⟨rfl, rfl⟩
        go_upto_region 10 with fail
        go_region_with (go_at_call 44; refine (fromInt_any (-(y : Int)) _ (by omega) (by omega)).mono ?_; rintro e w5 ⟨nr, ro, k, cr, rfl, hbn, hE5⟩; have x5 := (NBox.drew x3).below hE5; have r5 := (DBox.drew r3).below hE5; have b5 : Below B w w5 := Below.trans (Below.drew b3) (Below.mono hE5 (by have := r3.lt; simp; omega)); have c1 := x5.c1; have c2 := x5.c2; have f0 := r5.f 0; have f1 := r5.f 1; have f2 := r5.f 2; have f3 := r5.f 3; have q0 := r5.c0; have q1 := r5.c1; have q2 := r5.c2; have q3 := r5.c3)
        all_goals
          have hdn : Dn w5 (.agg #[.bool false, .bool nr, .slice ro k cr, .int .i64 (-1074 + (sh : Int) + (t : Int))]) d := by
            rw [HDD.out]
            refine Dn.put (by rw [← HDD.out]; exact HND.out) rfl rfl hbn
          have hres := dn_stored r5 hdn w b5 (Nat.le_refl _)
          have z3 := r5.stored false nr ro k cr (-1074 + (sh : Int) + (t : Int))
          have z0 := z3.c0
          have z1 := z3.c1
          have z2 := z3.c2
          have z4 := z3.c3
          have HRES := Lib.hid hres
          clear hres z3 hdn c1 c2 x5 r5 b5
          go_wp2
          refine bodyPost_ret (v := .agg #[.bool false, .bool nr, .slice ro k cr, .int .i64 (-1074 + (sh : Int) + (t : Int))]) (by simp [results, Tryz.results18, go_sem, z0, z1, z2, z4]) rfl ⟨_, rfl, ?_, ?_⟩
          · exact HRES.out.1
          · show Below _ _ _
            rw [HBe.out]
            exact HRES.out.2
end Go.Proofs.YtapcecjbmcoliaaGreatDoor

namespace Go.Proofs.YtapcecjbmcoliaaGreatDoor
open Go.ChangeShapes Go.WideShapes Go.ChangeAt Go.RowKit Go.Joins Go.Deep

theorem laid_tail {P : Program} {W : World} {x : String × DataW Unit} {rest : List (String × DataW Unit)} (h : laidMet P (x :: rest) W) : laidMet P rest W := by
  obtain ⟨ps, ⟨g', t', cs, fuel, p, q, _, _, _, _, hq, rfl⟩, hn, hc⟩ := h
  exact ⟨q, hq, (List.nodup_append.1 hn).2.1, fun b off hm => hc b off (List.mem_append_right _ hm)⟩

theorem table64_of {x : String × DataW Unit} {rest : List (String × DataW Unit)} {W : World} (h : laidMet Tryz.prog (x :: ("math/bits.deBruijn64tab", Rows.laid_math_bits_deBruijn64tab) :: rest) W) : Table64 W := by
  have h1 : Lib.TabIs Tryz.prog W "math/bits.deBruijn64tab" .u8 (Lib.deBruijn64tab.map fun (n : Nat) => (n : Int)) :=
    Lib.tabIs_of_head (g := 0) (t := 85) (e := 5) (n := 64) (rest := rest) (by kernel_rfl) (by kernel_rfl) (by kernel_rfl) (by kernel_rfl) (by kernel_rfl) (by kernel_rfl) (laid_tail h)
  intro j hj
  have h2 := h1.cell (g := 0) (by kernel_rfl) j (by simpa using hj)
  rw [h2]
  simp [List.getD, hj]
end Go.Proofs.YtapcecjbmcoliaaGreatDoor
