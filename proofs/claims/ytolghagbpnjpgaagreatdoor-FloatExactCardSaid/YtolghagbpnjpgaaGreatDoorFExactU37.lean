import Derived.Test.YtolghagbpnjpgaaGreatDoorFExactU26
import Derived.Test.YtolghagbpnjpgaaGreatDoorFExactU36
import Derived.Test.YtolghagbpnjpgaaGreatDoorFExactU18
import Derived.Test.YtolghagbpnjpgaaGreatDoorFExactU25
import Derived.Test.YtolghagbpnjpgaaGreatDoorFExactU32
namespace Go.Proofs.YtolghagbpnjpgaaGreatDoor

theorem tz_parts {f : Nat} (h0 : sig f ≠ 0) : sig f = sig f / 2 ^ tzf (sig f) * 2 ^ tzf (sig f) := by
  rcases tzf_isTz (sig f) with ⟨h, _⟩ | ⟨_, m, hm⟩
  · exact absurd h h0
  · have hp : 0 < 2 ^ tzf (sig f) := Nat.pow_pos (by omega)
    have hd : sig f / 2 ^ tzf (sig f) = 2 * m + 1 := by
      conv => lhs; lhs; rw [hm]
      exact Nat.mul_div_cancel_left _ hp
    rw [hd, Nat.mul_comm]
    exact hm
theorem sig_ne {f : Nat} (h : zeroB f = false) : sig f ≠ 0 := fun h1 => of_decide_eq_false h ((sig_zero f).1 h1)
theorem sgn_parts (s : Bool) {A : Nat} (h : A ≠ 0) : decide ((if s then -(A : Int) else (A : Int)) < 0) = s ∧ (if s then -(A : Int) else (A : Int)).natAbs = A ∧ (if s then -(A : Int) else (A : Int)) ≠ 0 := by
  cases s
  · simp; omega
  · simp; omega
theorem flr_sgz (s : Bool) (N : Nat) (e : Int) (t : Bool) (mode : Int) : flr s N e t mode = sgz s + fla s N e t mode := rfl
/-- a quotient of finite floats that are no zeros -/
theorem fdiv_fin {a b : Nat} {mode : Int} (fa : finB a = true) (fb : finB b = true) (za : zeroB a = false) (zb : zeroB b = false) : fdivF a b mode = quoV (fdy a) (fdy b) mode := by
  have sa := sig_ne za
  have sb := sig_ne zb
  obtain ⟨pa, la, na⟩ := fdy_parts fa sa (tzf_isTz _)
  obtain ⟨pb, lb, nb⟩ := fdy_parts fb sb (tzf_isTz _)
  have ha := tz_parts sa
  have hb := tz_parts sb
  unfold fdivF
  rw [(fin_not fa).1, (fin_not fa).2, (fin_not fb).1, (fin_not fb).2, za, zb, pa, pb]
  simp only [Bool.or_false, Bool.and_false, Bool.false_eq_true, if_false]
  generalize sig a / 2 ^ tzf (sig a) = A at *
  generalize sig b / 2 ^ tzf (sig b) = C at *
  generalize tzf (sig a) = i at *
  generalize tzf (sig b) = l at *
  obtain ⟨d1, d2, d3⟩ := sgn_parts (fneg a) na
  obtain ⟨e1, e2, e3⟩ := sgn_parts (fneg b) nb
  unfold quoV
  dsimp only
  rw [if_neg e3, if_neg d3, d1, e1, d2, e2, flr_sgz]
  have h := div_long (neg := fneg a != fneg b) (mode := mode) (ex := -1074 + (fsh a : Int)) (ey := -1074 + (fsh b : Int)) ha hb na nb (sig_lt a) (sig_lt b) (big_53 (quo_big na nb))
  rw [h]
  congr 2
theorem frounded_root {f r s hi lo : Nat} {E : Int} {mode : Int} (hf : finB f = true) (hz : zeroB f = false) (hn : fneg f = false) (R : RootOf (sig f) (-1074 + (fsh f : Int)) (sig f * 2 ^ s) hi lo r E s) :
    fla false r E (!decide (r * r = sig f * 2 ^ s)) mode = rootV (fdy f) mode := by
  have s0 := sig_ne hz
  obtain ⟨p, l, n⟩ := fdy_parts hf s0 (tzf_isTz _)
  have h := tz_parts s0
  have hr : r = isq (sig f * 2 ^ s) := isq_of R.r0 R.r1
  have h1 : 2 ^ 53 ≤ isq (sig f * 2 ^ s) := by rw [← hr]; exact Nat.le_trans (by decide) R.r2
  have hx := R.exp
  clear R
  subst hr
  rw [p, hn]
  generalize sig f / 2 ^ tzf (sig f) = A at *
  generalize tzf (sig f) = i at *
  generalize (-1074 + (fsh f : Int)) = e at *
  simp only [Bool.false_eq_true, if_false]
  unfold rootV
  dsimp only
  rw [if_neg (by omega), if_neg (by omega), Int.natAbs_natCast]
  obtain ⟨k1, k2⟩ := rootK_ok (A := A) (e := e + i)
  have h2 := root_long (neg := false) (mode := mode) h hx k2 h1 (big_53 (root_big n k1))
  rw [← h2]
  congr 1
  rw [← decide_not]
noncomputable def fsqrtF (f : Nat) (mode : Int) : Nat := if zeroB f || decide (f = 9218868437227405312) then f else if nanB f || fneg f then 9221120237041090560 else rootV (fdy f) mode
/-- a sum of a product and a number, all finite -/
theorem fma_fin {a b c : Nat} {mode : Int} (hc : c < 18446744073709551616) (fa : finB a = true) (fb : finB b = true) (fc : finB c = true) :
    (sgn3 (dm (dadd (dmul (fdy a) (fdy b)) (fdy c))) 0 = 0 ∧ fneg c = (fneg a != fneg b) ∧ fmaF a b c mode = sgz (fneg a != fneg b)) ∨
    (sgn3 (dm (dadd (dmul (fdy a) (fdy b)) (fdy c))) 0 = 0 ∧ fneg c ≠ (fneg a != fneg b) ∧ fmaF a b c mode = cancel mode) ∨
    (¬ sgn3 (dm (dadd (dmul (fdy a) (fdy b)) (fdy c))) 0 = 0 ∧ fmaF a b c mode = frdF (dadd (dmul (fdy a) (fdy b)) (fdy c)) mode) := by
  have h1 := fzs_lt fa
  have h2 := fzs_lt fb
  have h3 := fzs_lt fc
  have hi : Is (dmul (fdy a) (fdy b)) (1074 + 1074) (fzs a * fzs b) := (fdy_is fa).mul (fdy_is fb) (by omega) (B := (52 + low46) + (52 + low46)) (by rw [Int.natAbs_mul, Nat.pow_add]; exact Nat.mul_lt_mul'' h1 h2) (by decide)
  have hcu : Is (fdy c) (1074 + 1074) (fzs c * 2 ^ low74) := (fdy_is fc).up low74
  have q1 : (fzs a * fzs b).natAbs < 2 ^ ((52 + low46) + (52 + low46)) := by rw [Int.natAbs_mul, Nat.pow_add]; exact Nat.mul_lt_mul'' h1 h2
  have q2 : (fzs c * 2 ^ low74).natAbs < 2 ^ ((52 + low46) + (52 + low46)) := by
    have e1 : low74 ≤ 52 + low46 := by decide
    have e2 : 2 ^ low74 ≤ 2 ^ (52 + low46) := Nat.pow_le_pow_right (by omega) e1
    rw [Int.natAbs_mul, Int.natAbs_pow, show Int.natAbs 2 = 2 from rfl, Nat.pow_add]
    revert h3 e2
    generalize (2 : Nat) ^ (52 + low46) = P
    generalize (2 : Nat) ^ low74 = U
    intro h3 e2
    exact Nat.lt_of_le_of_lt (Nat.mul_le_mul_left _ e2) (Nat.mul_lt_mul_of_pos_right h3 (by omega))
  have hs : Is (dadd (dmul (fdy a) (fdy b)) (fdy c)) (1074 + 1074) (fzs a * fzs b + fzs c * 2 ^ low74) := hi.add hcu (by omega) (B := (52 + low46) + (52 + low46) + 1) (by rw [Nat.pow_succ]; revert q1 q2; generalize (2 : Nat) ^ (52 + low46 + (52 + low46)) = P; omega) (by decide)
  have hform : fmaF a b c mode = if (zeroB a || zeroB b) && zeroB c && decide (c ≠ sgz (fneg a != fneg b)) then cancel mode else if (zeroB a || zeroB b) then c else rsum (fzs a * fzs b + fzs c * 2 ^ low74) (-2148) mode := by
    unfold fmaF
    rw [(fin_not fa).1, (fin_not fa).2, (fin_not fb).1, (fin_not fb).2, (fin_not fc).1, (fin_not fc).2, ← fzs_prod, sgi_mul, ← fzs_sgi]
    simp only [Bool.or_false, Bool.false_and, Bool.false_or, Bool.false_eq_true, if_false]
  clear q1 q2 h1 h2 h3 hi hcu
  obtain ⟨m, e, hd, hm, -⟩ := hs.zero
  have hsz : sgn3 (dm (dadd (dmul (fdy a) (fdy b)) (fdy c))) 0 = 0 ↔ fzs a * fzs b + fzs c * 2 ^ low74 = 0 := by
    rw [hd]
    show sgn3 m 0 = 0 ↔ _
    rw [← hm]
    constructor
    · exact sgn3_zero
    · rintro rfl; rfl
  have hprod : (zeroB a || zeroB b) = true → fzs a * fzs b = 0 := by
    intro h
    cases hza : zeroB a
    · rw [hza] at h
      rw [zero_fzs (show zeroB b = true from h), Int.mul_zero]
    · rw [zero_fzs hza, Int.zero_mul]
  have hprod2 : (zeroB a || zeroB b) = false → fzs a * fzs b ≠ 0 := by
    intro h
    cases hza : zeroB a
    · rw [hza] at h
      exact Int.mul_ne_zero (nz_fzs hza) (nz_fzs (show zeroB b = false from h))
    · rw [hza] at h; cases h
  have hcz : zeroB c = true → c = sgz (fneg c) := fun h => zero_self hc h
  by_cases h0 : fzs a * fzs b + fzs c * 2 ^ low74 = 0
  · cases hp : (zeroB a || zeroB b) with
    | true =>
      have hc0 : fzs c = 0 := by
        rw [hprod hp, Int.zero_add] at h0
        rcases Int.mul_eq_zero.1 h0 with h | h
        · exact h
        · exact absurd h (Int.ne_of_gt (Int.pow_pos (by omega)))
      have zc : zeroB c = true := by
        cases h : zeroB c
        · exact absurd hc0 (nz_fzs h)
        · rfl
      have hcs := hcz zc
      by_cases hn : fneg c = (fneg a != fneg b)
      · refine Or.inl ⟨hsz.2 h0, hn, ?_⟩
        rw [hform, hp, zc, ← hn, ← hcs]
        simp
      · refine Or.inr (Or.inl ⟨hsz.2 h0, hn, ?_⟩)
        have hne : c ≠ sgz (fneg a != fneg b) := by
          intro h
          rw [hcs] at h
          apply hn
          revert h
          cases (fneg a != fneg b) <;> cases fneg c <;> simp [sgz]
        rw [hform, hp, zc, decide_eq_true hne]
        rfl
    | false =>
      have hn : fneg c ≠ (fneg a != fneg b) := by
        intro hn
        have hne := hprod2 hp
        rw [fzs_prod, fzs_sgi c, hn, ← sgi_mul] at h0
        rw [fzs_prod] at hne
        unfold sgi at h0 hne
        revert h0 hne
        generalize fz a * fz b = X
        generalize fz c * 2 ^ low74 = Y
        split <;> omega
      refine Or.inr (Or.inl ⟨hsz.2 h0, hn, ?_⟩)
      rw [hform, hp, h0]
      simp [rsum]
  · refine Or.inr (Or.inr ⟨fun h => h0 (hsz.1 h), ?_⟩)
    rw [frdF_of2 hs h0, hform]
    cases hp : (zeroB a || zeroB b) with
    | true =>
      have hpr := hprod hp
      have hc0 : fzs c ≠ 0 := fun h => h0 (by rw [hpr, h]; simp)
      have zc : zeroB c = false := by
        cases h : zeroB c
        · rfl
        · exact absurd (zero_fzs h) hc0
      rw [zc, hpr, Int.zero_add]
      simp only [Bool.and_false, Bool.false_and, Bool.false_eq_true, if_false, if_true]
      have h5 := rnd_up hc0 low74 (-1074) mode
      rw [fz_self fc zc hc] at h5
      exact h5.symm
    | false =>
      simp only [Bool.false_and, Bool.false_eq_true, if_false]
      unfold rsum
      rw [if_neg h0]
      rfl
theorem fdiv_form (a b : Nat) (mode : Int) : fdivF a b mode =
    if nanB a || nanB b || infB a && infB b || zeroB a && zeroB b then 9221120237041090560
    else if infB a || zeroB b then sgz (fneg a != fneg b) + 9218868437227405312
    else if zeroB a || infB b then sgz (fneg a != fneg b) + 0
    else sgz (fneg a != fneg b) + fla (fneg a != fneg b) (quoX (sig a) / quoY (sig b)) (quoE (sig a) (sig b) (-1074 + (fsh a : Int)) (-1074 + (fsh b : Int))) (decide (quoX (sig a) % quoY (sig b) ≠ 0)) mode := by
  unfold fdivF
  simp only [Nat.add_comm 9218868437227405312, Nat.add_zero]
theorem fma_form (a b c : Nat) (mode : Int) (fin : infB a = true ∨ infB b = true ∨ infB c = true ∨ nanB a = true ∨ nanB b = true ∨ nanB c = true) : fmaF a b c mode =
    if nanB a || nanB b || nanB c || (infB a || infB b) && (zeroB a || zeroB b) then 9221120237041090560
    else if (infB a || infB b) && infB c && decide (c ≠ 9218868437227405312 + sgz (fneg a != fneg b)) then 9221120237041090560
    else if infB a || infB b then sgz (fneg a != fneg b) + 9218868437227405312
    else c := by
  unfold fmaF
  rw [Nat.add_comm 9218868437227405312]
  by_cases h1 : (nanB a || nanB b || nanB c || (infB a || infB b) && (zeroB a || zeroB b)) = true
  · rw [if_pos h1, if_pos h1]
  · rw [if_neg h1, if_neg h1]
    by_cases h2 : ((infB a || infB b) && infB c && decide (c ≠ sgz (fneg a != fneg b) + 9218868437227405312)) = true
    · rw [if_pos h2, if_pos h2]
    · rw [if_neg h2, if_neg h2]
      by_cases h3 : (infB a || infB b) = true
      · rw [if_pos h3, if_pos h3]
      · rw [if_neg h3, if_neg h3]
        have hic : infB c = true := by
          simp only [Bool.not_eq_true, Bool.or_eq_false_iff] at h1 h3
          obtain ⟨⟨⟨n1, n2⟩, n3⟩, -⟩ := h1
          obtain ⟨i1, i2⟩ := h3
          simp only [n1, n2, n3, i1, i2] at fin
          simpa using fin
        rw [(inf_not hic).2, hic]
        simp
theorem inf_c {c : Nat} (hc : c < 18446744073709551616) (h : infB c = true) (s : Bool) : (c = 9218868437227405312 + sgz s) ↔ fneg c = s := by
  have e := inf_self hc h
  constructor
  · intro h1
    rw [e] at h1
    revert h1
    cases s <;> cases fneg c <;> simp [sgz]
  · rintro rfl
    exact e
end Go.Proofs.YtolghagbpnjpgaaGreatDoor

namespace Go.Proofs.YtolghagbpnjpgaaGreatDoor
open Go.RowKit

set_option maxRecDepth 100000 in
set_option maxHeartbeats 2000000 in
theorem fsqrt_val {f : Nat} (hf : f < 18446744073709551616) (hfin : finB f = true) (hz : zeroB f = false) (hn : fneg f = false) (mode : Int) (w : World) :
    Calls Tryz.prog 17 #[.int .u64 (f : Int), .int .i64 mode] w fun x w' => x = .returned (.int .u64 ((rootV (fdy f) mode : Nat) : Int)) ∧ Ext w w' := by
  have CZ := Lib.hid (fun w => isZero_any f hf w)
  have CN := Lib.hid (fun w => isNaN_any f hf w)
  have CG := Lib.hid (fun w => isNegative_any f hf w)
  have CS := Lib.hid (fun w => fsplit_any f hf w)
  rw [hz] at CZ
  rw [(fin_not hfin).1] at CN
  rw [hn] at CG
  have hi : ((f : Int) == 9218868437227405312) = false := by
    rw [beq_eq_false_iff_ne]
    intro h
    have h2 : f = 9218868437227405312 := by omega
    rw [h2] at hfin
    revert hfin
    decide
  have hs0 : sig f ≠ 0 := fun h => by have h1 := (sig_zero f).1 h; unfold zeroB at hz; rw [h1] at hz; simp at hz
  have hsl := sig_lt f
  have hsh := fsh_lt f
  have CR := Lib.hid (fun w => frootF_any (N := sig f) (e := -1074 + (fsh f : Int)) hs0 hsl (by omega) (by omega) w)
  have CO := Lib.hid (fun (r : Nat) (E : Int) (t : Bool) (h0 : 4611686018427387904 ≤ r) (h1 : r < 9223372036854775808) (hE0 : -100000 ≤ E) (hE1 : E ≤ 100000) w => fround_lo (t := t) h0 h1 hE0 hE1 mode w)
  have SI := Lib.hid (fun (r s hi lo : Nat) (E : Int) (R : RootOf (sig f) (-1074 + (fsh f : Int)) (sig f * 2 ^ s) hi lo r E s) (_ : 64 ≤ s) (_ : s ≤ 127) => frounded_root (mode := mode) hfin hz hn R)
  clear hs0 hsl hn hz hfin hf
  generalize rootV (fdy f) mode = R0 at *
  go_enter Tryz.func17, Tryz.ntmps17
  go_wp2_with fail
  refine (CZ.out _).mono ?_
  rintro x w1 ⟨rfl, rfl⟩
  go_wp2_with fail
  refine (CN.out _).mono ?_
  rintro x w2 ⟨rfl, rfl⟩
  go_wp2_with fail
  refine (CG.out _).mono ?_
  rintro x w3 ⟨rfl, rfl⟩
  go_wp2_with fail
  refine (CS.out _).mono ?_
  rintro x w4 ⟨rfl, hE1⟩
  have E1 := Lib.hid hE1
  clear hE1
  go_wp2_with fail
  refine (CR.out _).mono ?_
  rintro x w5 ⟨r, E, s, hi, lo, rfl, RO, k0, k1, hE2⟩
  have SI1 := Lib.hid (SI.out r s hi lo E RO k0 k1)
  have hexp := RO.exp
  have q0 := RO.r2
  have q1 := RO.r3
  have E2 := Lib.hid (Ext.trans E1.out hE2)
  have CO1 := Lib.hid (CO.out r E (!decide (r * r = sig f * 2 ^ s)) q0 q1 (by omega) (by omega))
  clear hE2 RO hexp k0 k1 q0 q1
  obtain ⟨t, ht⟩ : ∃ t, (!decide (r * r = sig f * 2 ^ s)) = t := ⟨_, rfl⟩
  rw [ht] at CO1 SI1
  rw [SI1.out] at CO1
  go_wp2_with fail
  refine (CO1.out _).mono ?_
  rintro x w6 ⟨rfl, hE3⟩
  go_wp2
  go_ret
  exact ⟨rfl, Ext.trans E2.out hE3⟩

set_option maxRecDepth 100000 in
theorem fsqrt_zero {f : Nat} (hf : f < 18446744073709551616) (hz : zeroB f = true) (mode : Int) (w : World) :
    Calls Tryz.prog 17 #[.int .u64 (f : Int), .int .i64 mode] w fun x w' => x = .returned (.int .u64 ((f : Nat) : Int)) ∧ Ext w w' := by
  have CZ := Lib.hid (fun w => isZero_any f hf w)
  rw [hz] at CZ
  clear hz hf
  go_enter Tryz.func17, Tryz.ntmps17
  go_wp2_with (first | (go_at_call 71; (with_reducible refine (CZ.out _).mono ?_); rintro e w' ⟨rfl, rfl⟩))
  go_ret
  exact ⟨rfl, Below.refl _ _⟩

set_option maxRecDepth 100000 in
theorem fsqrt_inf {f : Nat} (hf : f < 18446744073709551616) (hz : zeroB f = false) (h : f = 9218868437227405312) (mode : Int) (w : World) :
    Calls Tryz.prog 17 #[.int .u64 (f : Int), .int .i64 mode] w fun x w' => x = .returned (.int .u64 ((f : Nat) : Int)) ∧ Ext w w' := by
  have CZ := Lib.hid (fun w => isZero_any f hf w)
  rw [hz] at CZ
  have hi : ((f : Int) == 9218868437227405312) = true := by rw [h]; rfl
  clear hz hf h
  go_enter Tryz.func17, Tryz.ntmps17
  go_wp2_with (first | (go_at_call 71; (with_reducible refine (CZ.out _).mono ?_); rintro e w' ⟨rfl, rfl⟩))
  go_ret
  exact ⟨rfl, Below.refl _ _⟩

set_option maxRecDepth 100000 in
theorem fsqrt_nan {f : Nat} (hf : f < 18446744073709551616) (hz : zeroB f = false) (h : f ≠ 9218868437227405312) (hn : nanB f = true) (mode : Int) (w : World) :
    Calls Tryz.prog 17 #[.int .u64 (f : Int), .int .i64 mode] w fun x w' => x = .returned (.int .u64 ((9221120237041090560 : Nat) : Int)) ∧ Ext w w' := by
  have CZ := Lib.hid (fun w => isZero_any f hf w)
  rw [hz] at CZ
  have CN := Lib.hid (fun w => isNaN_any f hf w)
  rw [hn] at CN
  have hi : ((f : Int) == 9218868437227405312) = false := by rw [beq_eq_false_iff_ne]; omega
  clear hz hn hf h
  go_enter Tryz.func17, Tryz.ntmps17
  go_wp2_with (first | (go_at_call 71; (with_reducible refine (CZ.out _).mono ?_); rintro e w' ⟨rfl, rfl⟩) | (go_at_call 69; (with_reducible refine (CN.out _).mono ?_); rintro e w' ⟨rfl, rfl⟩))
  go_ret
  exact ⟨rfl, Below.refl _ _⟩

set_option maxRecDepth 100000 in
theorem fsqrt_neg {f : Nat} (hf : f < 18446744073709551616) (hz : zeroB f = false) (h : f ≠ 9218868437227405312) (hn : nanB f = false) (hg : fneg f = true) (mode : Int) (w : World) :
    Calls Tryz.prog 17 #[.int .u64 (f : Int), .int .i64 mode] w fun x w' => x = .returned (.int .u64 ((9221120237041090560 : Nat) : Int)) ∧ Ext w w' := by
  have CZ := Lib.hid (fun w => isZero_any f hf w)
  rw [hz] at CZ
  have CN := Lib.hid (fun w => isNaN_any f hf w)
  rw [hn] at CN
  have CG := Lib.hid (fun w => isNegative_any f hf w)
  rw [hg] at CG
  have hi : ((f : Int) == 9218868437227405312) = false := by rw [beq_eq_false_iff_ne]; omega
  clear hz hn hg hf h
  go_enter Tryz.func17, Tryz.ntmps17
  go_wp2_with (first | (go_at_call 71; (with_reducible refine (CZ.out _).mono ?_); rintro e w' ⟨rfl, rfl⟩) | (go_at_call 69; (with_reducible refine (CN.out _).mono ?_); rintro e w' ⟨rfl, rfl⟩) | (go_at_call 78; (with_reducible refine (CG.out _).mono ?_); rintro e w' ⟨rfl, rfl⟩))
  go_ret
  exact ⟨rfl, Below.refl _ _⟩

theorem fsqrt_any (f : Nat) (mode : Int) (hf : f < 18446744073709551616) (w : World) :
    Calls Tryz.prog 17 #[.int .u64 (f : Int), .int .i64 mode] w fun x w' => x = .returned (.int .u64 ((fsqrtF f mode : Nat) : Int)) ∧ Ext w w' := by
  unfold fsqrtF
  cases hz : zeroB f with
  | true => simp only [Bool.true_or, if_true]; exact fsqrt_zero hf hz mode w
  | false =>
    by_cases h : f = 9218868437227405312
    · rw [decide_eq_true h]; simp only [Bool.or_true, if_true]; exact fsqrt_inf hf hz h mode w
    · rw [decide_eq_false h]
      cases hn : nanB f with
      | true => simp only [Bool.or_false, Bool.true_or, if_true, Bool.false_eq_true, if_false]; exact fsqrt_nan hf hz h hn mode w
      | false =>
        cases hg : fneg f with
        | true => simp only [Bool.or_false, Bool.or_true, if_true, Bool.false_eq_true, if_false]; exact fsqrt_neg hf hz h hn hg mode w
        | false =>
          simp only [Bool.or_false, Bool.false_eq_true, if_false]
          refine fsqrt_val hf ?_ hz hg mode w
          have e := f_parts hf
          rw [hg] at e
          have h1 : ¬ 9218868437227405312 < fmag f := of_decide_eq_false hn
          have e2 : sgz false = 0 := rfl
          exact decide_eq_true (by omega)
end Go.Proofs.YtolghagbpnjpgaaGreatDoor

namespace Go.Proofs.YtolghagbpnjpgaaGreatDoor
open Go Go.RowKit

/-- what is kept of a number with a tail -/
def keptL (neg : Bool) (N : Nat) (e : Int) (t : Bool) (mode : Int) : Nat := cutV neg N (fplace N e - e).toNat t mode
theorem kept_cutL {neg : Bool} {N : Nat} {e : Int} {t : Bool} {mode : Int} (_ : e ≤ fplace N e) : cutV neg N (fplace N e - e).toNat t mode = keptL neg N e t mode := rfl
theorem fla_keptL {neg : Bool} {N : Nat} {e : Int} {t : Bool} {mode : Int} (hlt : e < fplace N e) (h : ¬ e + (Nat.log2 N : Int) > 1023) : fla neg N e t mode = (fplace N e + 1074).toNat * 4503599627370496 + keptL neg N e t mode := by
  unfold fla keptL cutV
  rw [if_neg h, if_neg (by omega), Nat.add_assoc]
theorem kept_leL {neg : Bool} {N : Nat} {e : Int} {t : Bool} {mode : Int} (h0 : N ≠ 0) (hlt : e < fplace N e) : keptL neg N e t mode ≤ 9007199254740992 ∧ (keptL neg N e t mode = 9007199254740992 → fover neg mode = true) ∧ (keptL neg N e t mode < 4503599627370496 → fplace N e = -1074) := by
  have l0 := Nat.log2_self_le h0
  have l1 := @Nat.lt_log2_self N
  generalize hl : Nat.log2 N = l at *
  have hp : fplace N e = max (e + (l : Int) - 52) (-1074) := by unfold fplace; rw [hl]
  unfold keptL
  generalize hk : (fplace N e - e).toNat = k
  have hlk : l ≤ 52 + k := by omega
  have hp2 : 0 < 2 ^ k := Nat.pow_pos (by omega)
  have a1 : N / 2 ^ k < 2 ^ 53 := by
    rw [Nat.div_lt_iff_lt_mul hp2, ← Nat.pow_add]
    exact Nat.lt_of_lt_of_le l1 (Nat.pow_le_pow_right (by omega) (by omega))
  unfold cutV
  refine ⟨by split <;> omega, fun h => ?_, fun h => ?_⟩
  · cases hu : fup neg mode (N / 2 ^ k) (N % 2 ^ k) (2 ^ k) t with
    | false => rw [hu] at h; simp at h; omega
    | true =>
      unfold fup at hu
      unfold fover
      by_cases m1 : mode = 1
      · rw [if_pos m1] at hu ⊢; simp at hu; exact hu.1
      · rw [if_neg m1] at hu ⊢
        by_cases m2 : mode = 2
        · rw [if_pos m2] at hu ⊢; simp at hu; simp [hu.1]
        · rw [if_neg m2] at hu ⊢
          by_cases m3 : mode = 3
          · rw [if_pos m3] at hu; cases hu
          · rw [if_neg m3]
  · rcases Int.lt_or_le (-1074) (fplace N e) with h2 | h2
    · exfalso
      have hlk2 : l = 52 + k := by omega
      have a3 : 2 ^ 52 ≤ N / 2 ^ k := by
        rw [Nat.le_div_iff_mul_le hp2, ← Nat.pow_add, ← hlk2]; exact l0
      omega
    · omega

set_option maxRecDepth 100000 in
set_option maxHeartbeats 4000000 in
theorem refRoundedT_any (neg nb : Bool) (ao : Option Addr) (k ca : Nat) (N : Nat) (e : Int) (t : Bool) (mode : Int) (w : World) (h : Bg w nb ao k ca (N : Int)) (h0 : N ≠ 0) (hlt : e < fplace N e) (hbl : blen N ≤ 900000) (he0 : -1000000 ≤ e) (he1 : e ≤ 1000000) (hT : Table w) :
    Calls Tryz.prog 88 #[.bool neg, .agg #[.bool nb, .slice ao k ca], .int .i64 e, .bool t, .int .i64 mode] w fun r w' => r = .returned (.int .u64 ((flr neg N e t mode : Nat) : Int)) ∧ Ext w w' := by
  obtain ⟨l, hl⟩ : ∃ l, Nat.log2 N = l := ⟨_, rfl⟩
  obtain ⟨bl, hbl2⟩ : ∃ bl, blen N = bl := ⟨_, rfl⟩
  have hbll : bl = l + 1 := by rw [← hbl2, ← hl]; unfold blen; rw [if_neg h0]
  rw [hbl2] at hbl
  have HBL := Lib.hid hbl2
  have HG := Lib.hid (fun W (hE : Ext w W) => h.below hE)
  have HTT := Lib.hid (fun W (hE : Ext w W) => hT.below hE)
  have hw1 : IntKind.i64.wrap (e + (bl : Int)) = e + (bl : Int) := IntWalk.i64_in _ ⟨by omega, by omega⟩
  have hw2 : IntKind.i64.wrap (e + (bl : Int) - 1) = e + (bl : Int) - 1 := IntWalk.i64_in _ ⟨by omega, by omega⟩
  obtain ⟨R, hR⟩ : ∃ R, flr neg N e t mode = R := ⟨_, rfl⟩
  rw [hR]
  have HR := Lib.hid hR
  clear h hT hbl2 hR
  go_enter Tryz.func88, Tryz.ntmps88
  go_upto_region 1 with fail
  obtain ⟨W, hW, hE, bx, hz⟩ := box_new w nb ao k ca
  rw [← hW]
  clear hW
  have HE0 := Lib.hid (show Ext w W from hE)
  have C := Lib.hid (refBitLen_any nb ao k ca (N : Int) W (HG.out _ HE0.out))
  clear hE hz
  generalize w.heap.size = B at *
  have hE := HE0.out
  have k0 := bx.c0
  have k1 := bx.c1
  go_wp2_with fail
  refine C.out.mono ?_
  rintro r w1 ⟨rfl, hw⟩
  rw [Int.natAbs_natCast, HBL.out]
  have hE := Ext.trans hE hw
  have bx := bx.below hw
  have hz : B < w1.heap.size := bx.lt
  clear k0 k1 C hw
  by_cases htop : e + (bl : Int) - 1 ≥ 1024
  · have hV : sgz neg + (if fover neg mode then 9218868437227405312 else 9218868437227405311) = R := by
      rw [← HR.out]
      unfold flr fla sgz
      rw [hl, if_pos (show e + (l : Int) > 1023 by omega)]
    have CO2 := Lib.hid (fun w => by have := refOver_any neg mode w; rw [hV] at this; exact this)
    have HFIN := Lib.hid hE
    clear hl hE hbll hV
    go_wp2_with fail
    refine (CO2.out _).mono ?_
    rintro r w2 ⟨rfl, rfl⟩
    go_wp2
    go_ret
    exact ⟨rfl, HFIN.out⟩
  · obtain ⟨P, hP⟩ : ∃ P, fplace N e = P := ⟨_, rfl⟩
    have hPm : P = max (e + (bl : Int) - 1 - 52) (-1074) := by rw [← hP]; unfold fplace; rw [hl]; omega
    have hP0 : -1074 ≤ P := by omega
    have hP1 : P ≤ 971 := by omega
    have hP2 : P - e ≤ 1000000 := by omega
    have hP3 : e - P ≤ 52 := by omega
    obtain ⟨X, hX⟩ : ∃ X, keptL neg N e t mode = X := ⟨_, rfl⟩
    obtain ⟨q1, q2, q3⟩ := @kept_leL neg N e t mode h0 hlt
    rw [hX] at q1 q2 q3
    rw [hP] at q3
    have hfl := @fla_keptL neg N e t mode hlt (by rw [hl]; omega)
    rw [hP, hX] at hfl
    have HFL := Lib.hid (show R = sgz neg + ((P + 1074).toNat * 4503599627370496 + X) by rw [← HR.out]; unfold flr sgz; rw [hfl])
    have HK2 := Lib.hid q2
    have HK3 := Lib.hid q3
    have hw3 : IntKind.i64.wrap (e + (bl : Int) - 1 - 52) = e + (bl : Int) - 1 - 52 := IntWalk.i64_in _ ⟨by omega, by omega⟩
    have hmx : (if e + (bl : Int) - 1 - 52 ≤ -1074 then (-1074 : Int) else e + (bl : Int) - 1 - 52) = P := by split <;> omega
    have hKC := @kept_cutL neg N e t mode
    rw [hP, hX] at hKC
    have HKC := Lib.hid hKC
    have HLT := Lib.hid (show e < P by rw [← hP]; exact hlt)
    have hws1 : IntKind.i64.wrap (P - e) = P - e := IntWalk.i64_in _ ⟨by omega, by omega⟩
    have hws2 : IntKind.i64.wrap (e - P) = e - P := IntWalk.i64_in _ ⟨by omega, by omega⟩
    clear hfl q2 q3 hX hP hKC hl hbll hlt
    go_upto_region 5 with fail
    rw [← hPm]
    clear hPm hw1 hw2 hw3 hmx
    go_upto_region 6 with fail
    obtain ⟨V, hV, hVB, dn, hvz⟩ := box_new w1 false none 0 0
    rw [← hV]
    clear hV
    have hD0 : w.heap.size ≤ w1.heap.size := hE.size
    have hE := Ext.trans hE hVB
    have bx := bx.below hVB
    clear hVB hvz hz
    generalize w1.heap.size = D at *
    have HE1 := Lib.hid hE
    have k0 := bx.c0
    have k1 := bx.c1
    have q0 := dn.c0
    have q1 := dn.c1
    by_cases hge : e ≤ P
    · obtain ⟨kk, hkk⟩ : ∃ kk : Nat, P - e = (kk : Int) := ⟨(P - e).toNat, by omega⟩
      have hkx := HKC.out hge
      rw [show (P - e).toNat = kk by omega] at hkx
      have C := refCut_any neg nb ao k ca N kk t mode V (HG.out _ hE) (by rw [HBL.out]; exact hbl) (by omega) (HTT.out _ hE)
      rw [hkx, ← hkk] at C
      have C := Lib.hid C
      clear hkx hkk
      go_wp2_with fail
      refine C.out.mono ?_
      rintro r w3 ⟨nr, ro, j, cr, rfl, hx, hw⟩
      have hE := Ext.trans hE hw
      have dn := dn.below hw
      clear k0 k1 q0 q1 C
      have q0 := dn.c0
      have q1 := dn.c1
      have f0 := dn.f 0
      have f1 := dn.f 1
      have ho := only_set2 w3 D (.bool nr) (.slice ro j cr)
      have hx := Bn.only_bx' hx dn ho
      have dn := dn.stored nr ro j cr
      have hE : Ext w ((w3.setCell ⟨D, 0, none⟩ (.bool nr)).setCell ⟨D, 1, none⟩ (.slice ro j cr)) := Below.trans hE (ho.below hD0)
      go_upto_region 9 with fail
      generalize (w3.setCell ⟨D, 0, none⟩ (.bool nr)).setCell ⟨D, 1, none⟩ (.slice ro j cr) = w4 at *
      clear q0 q1 f0 f1 ho hw bx
      have gx := bn_bg_of hx (by rw [Int.natAbs_natCast]; exact Nat.le_trans (blen_le_of_lt (show X < 2 ^ 60 by omega)) (by omega))
      have j0 := dn.c0
      have j1 := dn.c1
      have C := refInt_any _ _ _ _ _ w4 gx
      obtain ⟨xi, hxi⟩ : ∃ xi : Int, (X : Int) = xi := ⟨_, rfl⟩
      rw [(fits_yes (x := (X : Int)) (by omega)).1, (fits_yes (x := (X : Int)) (by omega)).2, hxi] at C
      have C := Lib.hid C
      have HXI := Lib.hid hxi
      clear gx hxi
      go_wp2_with fail
      refine C.out.mono ?_
      rintro r wr ⟨rfl, hwr⟩
      have HFIN := Lib.hid (Ext.trans hE hwr)
      clear j0 j1 dn hx hE hwr C
      by_cases x53 : X = 9007199254740992
      · have hov := HK2.out x53
        by_cases p9 : P = 971
        · have hV : sgz neg + 9218868437227405312 = R := by rw [HFL.out, p9, x53]; rfl
          have CO2 := Lib.hid (fun w => by have := refOver_any neg mode w; rw [hov, if_pos rfl, hV] at this; exact this)
          have hc1 : xi = 9007199254740992 := by rw [← HXI.out, x53]; rfl
          clear hov hV x53
          subst p9
          go_wp2_with fail
          refine (CO2.out _).mono ?_
          rintro r wo ⟨rfl, rfl⟩
          go_wp2
          go_ret
          exact ⟨rfl, HFIN.out⟩
        · obtain ⟨Q, hQ⟩ : ∃ Q : Nat, P + 1 + 1075 = (Q : Int) := ⟨(P + 1 + 1075).toNat, by omega⟩
          have hV : sgz neg + Q * 4503599627370496 = R := by rw [HFL.out, x53]; omega
          have hor := or_add (a := Q) (b := 0) (k := 52) (by decide) (by omega)
          rw [Nat.add_zero, show ((Q * 2 ^ 52 : Nat) : Int) = (Q : Int) * 4503599627370496 by rw [Int.natCast_mul]; rfl] at hor
          have CS2 := Lib.hid (fun w => by have := refSigned_any neg (Q * 4503599627370496) (by omega) w; rw [hV, show ((Q * 4503599627370496 : Nat) : Int) = (Q : Int) * 4503599627370496 by rw [Int.natCast_mul]; rfl, ← hor] at this; exact this)
          clear hor
          have hc1 : xi = 9007199254740992 := by rw [← HXI.out, x53]; rfl
          have hw5 : IntKind.i64.wrap (P + 1) = P + 1 := IntWalk.i64_in _ ⟨by omega, by omega⟩
          have hw6 : IntKind.i64.wrap (P + 1 + 53) = P + 1 + 53 := IntWalk.i64_in _ ⟨by omega, by omega⟩
          have hw7 : IntKind.i64.wrap (P + 1 + 1075) = P + 1 + 1075 := IntWalk.i64_in _ ⟨by omega, by omega⟩
          have hng : ¬ P + 1 + 53 > 1024 := by omega
          clear hov hV x53 p9
          go_wp2_with fail
          refine (CS2.out _).mono ?_
          rintro r wo ⟨rfl, rfl⟩
          go_wp2
          go_ret
          exact ⟨rfl, HFIN.out⟩
      · by_cases x52 : 4503599627370496 ≤ X
        · obtain ⟨Q, hQ⟩ : ∃ Q : Nat, P + 1075 = (Q : Int) := ⟨(P + 1075).toNat, by omega⟩
          obtain ⟨L, hL⟩ : ∃ L, X = L + 4503599627370496 := ⟨X - 4503599627370496, by omega⟩
          have hxi := HXI.out
          have hxl : xi - 4503599627370496 = (L : Int) := by omega
          have hL0 : L < 4503599627370496 := by omega
          have hV : sgz neg + (Q * 4503599627370496 + L) = R := by rw [HFL.out]; omega
          have hor := or_add (a := Q) (b := L) (k := 52) hL0 (by omega)
          rw [show ((Q * 2 ^ 52 : Nat) : Int) = (Q : Int) * 4503599627370496 by rw [Int.natCast_mul]; rfl] at hor
          have CS2 := Lib.hid (fun w => by have := refSigned_any neg (Q * 4503599627370496 + L) (by omega) w; rw [hV, show ((Q * 4503599627370496 + L : Nat) : Int) = ((Q * 2 ^ 52 + L : Nat) : Int) from rfl, ← hor] at this; exact this)
          have hc1 : ¬ (xi = 9007199254740992) := by omega
          have hc2 : xi ≥ 4503599627370496 := by omega
          have hw5 : IntKind.i64.wrap (P + 53) = P + 53 := IntWalk.i64_in _ ⟨by omega, by omega⟩
          have hw7 : IntKind.i64.wrap (P + 1075) = P + 1075 := IntWalk.i64_in _ ⟨by omega, by omega⟩
          have hw8 : IntKind.i64.wrap (xi - 4503599627370496) = xi - 4503599627370496 := IntWalk.i64_in _ ⟨by omega, by omega⟩
          have hng : ¬ P + 53 > 1024 := by omega
          clear hor hxi hL hV x53 x52
          go_wp2_with fail
          refine (CS2.out _).mono ?_
          rintro r wo ⟨rfl, rfl⟩
          go_wp2
          go_ret
          exact ⟨rfl, HFIN.out⟩
        · have hpl := HK3.out (by omega)
          have hxi := HXI.out
          have hc1 : ¬ (xi = 9007199254740992) := by omega
          have hc2 : ¬ (xi ≥ 4503599627370496) := by omega
          have hwx : IntKind.u64.wrap xi = xi := by rw [IntKind.wrap_u64]; omega
          have hV : sgz neg + X = R := by rw [HFL.out, hpl]; omega
          have CS2 := Lib.hid (fun w => by have := refSigned_any neg X (by omega) w; rw [hV, HXI.out] at this; exact this)
          clear hpl x53 x52 hV hxi
          go_wp2_with fail
          refine (CS2.out _).mono ?_
          rintro r wo ⟨rfl, rfl⟩
          go_wp2
          go_ret
          exact ⟨rfl, HFIN.out⟩
    · exact absurd (Int.le_of_lt HLT.out) hge
end Go.Proofs.YtolghagbpnjpgaaGreatDoor
