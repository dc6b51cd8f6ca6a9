import Derived.Test.YtolghagbpnjpgaaGreatDoorFExactU25
import Derived.Test.YtolghagbpnjpgaaGreatDoorFExactU21
import Derived.Test.YtolghagbpnjpgaaGreatDoorFExactU17
import Derived.Test.YtolghagbpnjpgaaGreatDoorFExactU4
import Derived.Test.YtolghagbpnjpgaaGreatDoorFExactU7
import Derived.Test.YtolghagbpnjpgaaGreatDoorFExactU20
import Derived.Test.YtolghagbpnjpgaaGreatDoorFExactU5
import Derived.Test.YtolghagbpnjpgaaGreatDoorFExactU16
import Derived.WalkKit
import Derived.WalkSmall
import Derived.Lib.Hide
import Derived.Test.YtolghagbpnjpgaaGreatDoorFExactU13
namespace Go.Proofs.YtolghagbpnjpgaaGreatDoor

theorem quo_big {A C : Nat} (hA : A ≠ 0) (hC : C ≠ 0) : 2 ^ 61 ≤ A * 2 ^ (60 + 2 + blen C - blen A) / C := by
  have h1 := blen_lt C
  have h2 : 2 ^ (blen A - 1) ≤ A := by
    have := Nat.log2_self_le hA
    have e : blen A - 1 = Nat.log2 A := by unfold blen; rw [if_neg hA]; omega
    rw [e]; exact this
  have hb : 1 ≤ blen A := by unfold blen; rw [if_neg hA]; omega
  rw [Nat.le_div_iff_mul_le (Nat.pos_of_ne_zero hC)]
  refine Nat.le_trans (Nat.mul_le_mul_left _ (Nat.le_of_lt h1)) ?_
  refine Nat.le_trans ?_ (Nat.mul_le_mul_right _ h2)
  rw [← Nat.pow_add, ← Nat.pow_add]
  exact Nat.pow_le_pow_right (by omega) (by omega)
theorem root_big {A k : Nat} (hA : A ≠ 0) (hk : 2 * ((60 : Nat) : Int) + 4 - (blen A : Int) ≤ (k : Nat)) : 2 ^ 61 ≤ isq (A * 2 ^ k) := by
  rw [isq_le, ← Nat.pow_add]
  have h2 : 2 ^ (blen A - 1) ≤ A := by
    have := Nat.log2_self_le hA
    have e : blen A - 1 = Nat.log2 A := by unfold blen; rw [if_neg hA]; omega
    rw [e]; exact this
  have hb : 1 ≤ blen A := by unfold blen; rw [if_neg hA]; omega
  refine Nat.le_trans ?_ (Nat.mul_le_mul_right _ h2)
  rw [← Nat.pow_add]
  exact Nat.pow_le_pow_right (by omega) (by omega)
theorem big_place {Q : Nat} {e : Int} (h : 2 ^ 61 ≤ Q) : e < fplace Q e := by
  have h0 : Q ≠ 0 := by have : 0 < 2 ^ 61 := Nat.pow_pos (by omega); omega
  have h1 : 61 ≤ Nat.log2 Q := (Nat.le_log2 h0).2 h
  unfold fplace
  omega
theorem big_53 {Q : Nat} (h : 2 ^ 61 ≤ Q) : 2 ^ 53 ≤ Q := Nat.le_trans (Nat.pow_le_pow_right (by omega) (by omega)) h
theorem big_ne {Q : Nat} (h : 2 ^ 61 ≤ Q) : Q ≠ 0 := by have : 0 < 2 ^ 61 := Nat.pow_pos (by omega); omega
/-- two lengths of a root that suffice give the same float -/
theorem fla_root_any {neg : Bool} {mode : Int} {A k k' : Nat} {e : Int} (hev : (e - (k : Int)) % 2 = 0) (hev' : (e - (k' : Int)) % 2 = 0) (h : 2 ^ 53 ≤ isq (A * 2 ^ k)) (h' : 2 ^ 53 ≤ isq (A * 2 ^ k')) :
    fla neg (isq (A * 2 ^ k)) ((e - (k : Int)) / 2) (decide (isq (A * 2 ^ k) * isq (A * 2 ^ k) ≠ A * 2 ^ k)) mode = fla neg (isq (A * 2 ^ k')) ((e - (k' : Int)) / 2) (decide (isq (A * 2 ^ k') * isq (A * 2 ^ k') ≠ A * 2 ^ k')) mode := by
  have h3 := root_long (neg := neg) (mode := mode) (N := A) (A := A) (i := 0) (s := k) (k := k') (E := (e - (k : Int)) / 2) (e := e) (by omega) (by omega) (by omega) h h'
  rw [h3]
  congr 1
  omega
/-- the quotient of two dyads, as a float -/
def quoV (d d' : Dy) (mode : Int) : Nat :=
  match d, d' with
  | some (m, e), some (m', e') =>
    if m' = 0 then 9221120237041090560
    else if m = 0 then 0
    else flr (decide (m < 0) != decide (m' < 0)) (m.natAbs * 2 ^ (60 + 2 + blen m'.natAbs - blen m.natAbs) / m'.natAbs) (e - e' + -((60 + 2 + blen m'.natAbs - blen m.natAbs : Nat) : Int)) (decide (m.natAbs * 2 ^ (60 + 2 + blen m'.natAbs - blen m.natAbs) % m'.natAbs ≠ 0)) mode
  | _, _ => 9221120237041090560
/-- how far a root is taken -/
def rootK (A : Nat) (e : Int) : Nat := 126 - blen A + ((e - ((126 - blen A : Nat) : Int)) % 2).toNat
theorem rootK_ok {A : Nat} {e : Int} : 2 * ((60 : Nat) : Int) + 4 - (blen A : Int) ≤ (rootK A e : Nat) ∧ (e - (rootK A e : Int)) % 2 = 0 := by
  unfold rootK; omega
/-- the root of a dyad, as a float -/
noncomputable def rootV (d : Dy) (mode : Int) : Nat :=
  match d with
  | some (m, e) =>
    if m < 0 then 9221120237041090560
    else if m = 0 then 0
    else fla false (isq (m.natAbs * 2 ^ rootK m.natAbs e)) ((e - (rootK m.natAbs e : Int)) / 2) (decide (isq (m.natAbs * 2 ^ rootK m.natAbs e) * isq (m.natAbs * 2 ^ rootK m.natAbs e) ≠ m.natAbs * 2 ^ rootK m.natAbs e)) mode
  | none => 9221120237041090560
theorem rootV_any {A k : Nat} {e mode : Int} (hA : A ≠ 0) (hk : 2 * ((60 : Nat) : Int) + 4 - (blen A : Int) ≤ (k : Nat)) (hev : (e - (k : Int)) % 2 = 0) :
    flr false (isq (A * 2 ^ k)) ((e - (k : Int)) / 2) (decide (isq (A * 2 ^ k) * isq (A * 2 ^ k) ≠ A * 2 ^ k)) mode = rootV (some ((A : Int), e)) mode := by
  unfold rootV
  dsimp only
  rw [if_neg (by omega), if_neg (by omega), Int.natAbs_natCast]
  unfold flr
  rw [if_neg (by decide), Nat.zero_add]
  obtain ⟨h1, h2⟩ := rootK_ok (A := A) (e := e)
  exact fla_root_any hev h2 (big_53 (root_big hA hk)) (big_53 (root_big hA h1))
end Go.Proofs.YtolghagbpnjpgaaGreatDoor

namespace Go.Proofs.YtolghagbpnjpgaaGreatDoor

/-- these dyads have the sum N in units of 2^-S -/
inductive IsL (S : Nat) : List Dy → Int → Prop
  | nil : IsL S [] 0
  | cons {d : Dy} {l : List Dy} {N M : Int} (h : Is d S N) (t : IsL S l M) : IsL S (d :: l) (N + M)

theorem IsL.some {S : Nat} {l : List Dy} {N : Int} (h : IsL S l N) : none ∉ l := by
  induction h with
  | nil => simp
  | cons h _ ih =>
    intro hm
    rcases List.mem_cons.1 hm with e | hm
    · obtain ⟨m, x, h1, _⟩ := h
      rw [← e] at h1; cases h1
    · exact ih hm

end Go.Proofs.YtolghagbpnjpgaaGreatDoor

namespace Go.Proofs.YtolghagbpnjpgaaGreatDoor
open Go.RowKit

/-- a float's number -/
def fdy (f : Nat) : Dy := if finB f then dmk (fzs f) (-1074) else none

/-- its parts -/
theorem fdy_parts {f t : Nat} (hf : finB f = true) (h0 : sig f ≠ 0) (ht : IsTz (sig f) t) : fdy f = some (if fneg f then -((sig f / 2 ^ t : Nat) : Int) else ((sig f / 2 ^ t : Nat) : Int), -1074 + (fsh f : Int) + t) ∧ sig f / 2 ^ t < 9007199254740992 ∧ sig f / 2 ^ t ≠ 0 := by
  rcases ht with ⟨h, _⟩ | ⟨_, m, hm⟩
  · exact absurd h h0
  · have hp : 0 < 2 ^ t := Nat.pow_pos (by omega)
    have hd : sig f / 2 ^ t = 2 * m + 1 := by rw [hm, Nat.mul_div_cancel_left _ hp]
    have hlt : sig f / 2 ^ t < 9007199254740992 := Nat.lt_of_le_of_lt (Nat.div_le_self _ _) (sig_lt f)
    refine ⟨?_, hlt, by omega⟩
    rw [hd] at hlt ⊢
    have hfin : fmag f < 9218868437227405312 := of_decide_eq_true hf
    have hsh : fsh f ≤ 2045 := by unfold fsh ffld; omega
    have ht52 : t < 53 := by
      have h1 : 2 ^ t < 2 ^ 53 := by
        have h2 : 2 ^ t ≤ sig f := by rw [hm]; exact Nat.le_mul_of_pos_right _ (by omega)
        exact Nat.lt_of_le_of_lt h2 (sig_lt f)
      exact (Nat.pow_lt_pow_iff_right (by omega)).1 h1
    have hz : fz f = (2 * m + 1) * 2 ^ (t + fsh f) := by rw [Nat.pow_add, ← Nat.mul_assoc, Nat.mul_comm (2 * m + 1), ← hm]; rfl
    have hc : ((fz f : Nat) : Int) = ((2 * m + 1 : Nat) : Int) * 2 ^ (t + fsh f) := by rw [hz, Int.natCast_mul, Int.natCast_pow]; rfl
    have hv : fzs f = (if fneg f then -((2 * m + 1 : Nat) : Int) else ((2 * m + 1 : Nat) : Int)) * 2 ^ (t + fsh f) := by
      unfold fzs
      rw [hc]
      cases fneg f
      · rfl
      · simp only [if_true]; rw [Int.neg_mul]
    have hb : blen (2 * m + 1) ≤ 53 := blen_le_of_lt (show 2 * m + 1 < 2 ^ 53 from hlt)
    unfold fdy
    rw [hf, if_pos rfl, hv, dmk_shift]
    rw [show (-1074 : Int) + ((t + fsh f : Nat) : Int) = -1074 + (fsh f : Int) + t by omega]
    refine dmk_norm (Or.inr ⟨?_, by omega, ?_⟩)
    · split <;> omega
    · have e1 : (if fneg f then -((2 * m + 1 : Nat) : Int) else ((2 * m + 1 : Nat) : Int)).natAbs = 2 * m + 1 := by split <;> omega
      rw [e1]
      omega

theorem fz_bound {f : Nat} (h : finB f = true) : fz f < 2 ^ (52 + low46) := by
  rw [Nat.pow_add, ← fz_inf, ← fz_mag f]
  exact fz_lt (of_decide_eq_true h) (Nat.le_refl _)
theorem low46_le : 52 + low46 = 2098 := rfl
theorem fzs_abs (f : Nat) : (fzs f).natAbs = fz f := by unfold fzs; split <;> omega
theorem fdy_is {f : Nat} (h : finB f = true) : Is (fdy f) 1074 (fzs f) := by
  unfold fdy
  rw [h, if_pos rfl]
  exact Is.of_dmk (S := 1074) (B := 52 + low46) (by omega) (by rw [fzs_abs]; exact fz_bound h) (by rw [low46_le]; omega)

end Go.Proofs.YtolghagbpnjpgaaGreatDoor

namespace Go.Proofs.YtolghagbpnjpgaaGreatDoor
open Go Go.RowKit

/-- is the rest of d behind f the number of a float -/
def rest (f : Nat) (d : Dy) : Nat := frdF (dsub d (fdy f)) 0
end Go.Proofs.YtolghagbpnjpgaaGreatDoor

namespace Go.Proofs.YtolghagbpnjpgaaGreatDoor

theorem frdF_of {d : Dy} {R : Int} (h : Is d 1074 R) (hR : R ≠ 0) (mode : Int) : frdF d mode = rnd R (-1074) mode := by
  obtain ⟨m, e, rfl, _, h2, rfl⟩ := h
  have hm : m ≠ 0 := by rintro rfl; simp at hR
  show rz m e mode = _
  unfold rz
  rw [if_neg hm]
  have := rnd_up hm (e + ((1074 : Nat) : Int)).toNat e mode
  rw [← this]
  congr 1
  omega

theorem fzs_lt {f : Nat} (h : finB f = true) : (fzs f).natAbs < 2 ^ (52 + low46) := by
  have := fz_bound h
  rw [← fzs_abs] at this
  exact this

end Go.Proofs.YtolghagbpnjpgaaGreatDoor

namespace Go.Proofs.YtolghagbpnjpgaaGreatDoor
open Go.RowKit

theorem kind_fields {f q r : Nat} (hq : f / 4503599627370496 % 2048 = q) (hr : f % 4503599627370496 = r) : fmag f = q * 4503599627370496 + r ∧ q < 2048 ∧ r < 4503599627370496 := by
  unfold fmag
  omega
theorem and_fields (f : Nat) (hf : f < 18446744073709551616) : bits BinOp.and IntKind.u64 ((f : Int) / 4503599627370496) 2047 = ((f / 4503599627370496 % 2048 : Nat) : Int) ∧ bits BinOp.and IntKind.u64 (f : Int) 4503599627370495 = ((f % 4503599627370496 : Nat) : Int) := by
  have h1 : (f : Int) / 4503599627370496 = ((f / 4503599627370496 : Nat) : Int) := (Int.natCast_ediv _ _).symm
  have h2 := bits_and_u64_nat (f / 4503599627370496) 2047 (by omega) (by omega)
  rw [show (2047 : Nat) = 2 ^ 11 - 1 from rfl, Nat.and_two_pow_sub_one_eq_mod] at h2
  have h3 := bits_and_u64_nat f 4503599627370495 (by omega) (by omega)
  rw [show (4503599627370495 : Nat) = 2 ^ 52 - 1 from rfl, Nat.and_two_pow_sub_one_eq_mod] at h3
  rw [h1]
  exact ⟨h2, h3⟩

set_option maxRecDepth 100000 in
set_option maxHeartbeats 1000000 in
theorem refKind_any (f : Nat) (hf : f < 18446744073709551616) (w : World) :
    Calls Tryz.prog 129 #[.int .u64 (f : Int)] w fun e w' => e = .returned (.int .i64 (fkind f)) ∧ w = w' := by
  obtain ⟨h1, h2⟩ := and_fields f hf
  obtain ⟨q, hq⟩ : ∃ q : Nat, f / 4503599627370496 % 2048 = q := ⟨_, rfl⟩
  obtain ⟨r, hr⟩ : ∃ r : Nat, f % 4503599627370496 = r := ⟨_, rfl⟩
  obtain ⟨hm, hq', hr'⟩ := kind_fields hq hr
  rw [hq] at h1
  rw [hr] at h2
  have hk := fkind_cases f
  rw [hm] at hk
  generalize fkind f = k at *
  clear hq hr hm hf
  by_cases c1 : q = 2047
  · have b1 : ((q : Int) == 2047) = true := by rw [beq_iff_eq]; omega
    by_cases c2 : r = 0
    · obtain rfl : k = 2 := by omega
      have b2 : ((r : Int) != 0) = false := by simp; omega
      clear hk c1 c2 hq' hr'
      go_enter Tryz.func129, Tryz.ntmps129
      go_wp2
      go_ret
      exact ⟨rfl, rfl⟩
    · obtain rfl : k = 3 := by omega
      have b2 : ((r : Int) != 0) = true := by simp; omega
      clear hk c1 c2 hq' hr'
      go_enter Tryz.func129, Tryz.ntmps129
      go_wp2
      go_ret
      exact ⟨rfl, rfl⟩
  · have b1 : ((q : Int) == 2047) = false := by rw [beq_eq_false_iff_ne]; omega
    by_cases c2 : q = 0
    · have b3 : ((q : Int) == 0) = true := by rw [beq_iff_eq]; omega
      by_cases c3 : r = 0
      · obtain rfl : k = 0 := by omega
        have b4 : ((r : Int) == 0) = true := by rw [beq_iff_eq]; omega
        clear hk c1 c2 c3 hq' hr'
        go_enter Tryz.func129, Tryz.ntmps129
        go_wp2
        go_ret
        exact ⟨rfl, rfl⟩
      · obtain rfl : k = 1 := by omega
        have b4 : ((r : Int) == 0) = false := by rw [beq_eq_false_iff_ne]; omega
        clear hk c1 c2 c3 hq' hr'
        go_enter Tryz.func129, Tryz.ntmps129
        go_wp2
        go_ret
        exact ⟨rfl, rfl⟩
    · obtain rfl : k = 1 := by omega
      have b3 : ((q : Int) == 0) = false := by rw [beq_eq_false_iff_ne]; omega
      clear hk c1 c2 hq' hr'
      go_enter Tryz.func129, Tryz.ntmps129
      go_wp2
      go_ret
      exact ⟨rfl, rfl⟩

theorem kind_nan (f : Nat) : (fkind f == 3) = nanB f := by
  have h := fkind_cases f
  unfold nanB
  generalize fkind f = k at *
  generalize fmag f = m at *
  by_cases h1 : 9218868437227405312 < m
  · rw [decide_eq_true h1, beq_iff_eq]; omega
  · rw [decide_eq_false h1, beq_eq_false_iff_ne]; omega

set_option maxRecDepth 100000 in
theorem refNan_any (f : Nat) (hf : f < 18446744073709551616) (b : Bool) (hb : nanB f = b) (w : World) :
    Calls Tryz.prog 56 #[.int .u64 (f : Int)] w fun e w' => e = .returned (.bool b) ∧ w = w' := by
  have hk := kind_nan f
  rw [hb] at hk
  have HK := Lib.hid hk
  clear hk hb
  go_enter Tryz.func56, Tryz.ntmps56
  go_wp2_with fail
  refine (refKind_any f hf _).mono ?_
  rintro e w' ⟨rfl, rfl⟩
  go_wp2
  go_ret
  exact ⟨ret_bool HK.out, rfl⟩

set_option maxRecDepth 100000 in
theorem refMinus_any (f : Nat) (hf : f < 18446744073709551616) (b : Bool) (hb : fneg f = b) (w : World) :
    Calls Tryz.prog 66 #[.int .u64 (f : Int)] w fun e w' => e = .returned (.bool b) ∧ w = w' := by
  have ha := and_sign hf
  rw [hb] at ha
  clear hb
  cases b
  all_goals
    unfold sgz at ha
    simp only [if_true, Bool.false_eq_true, if_false] at ha
    go_enter Tryz.func66, Tryz.ntmps66
    go_wp2
    go_ret
    exact ⟨ret_bool (by first | rfl | decide | simp), rfl⟩

end Go.Proofs.YtolghagbpnjpgaaGreatDoor

namespace Go.Proofs.YtolghagbpnjpgaaGreatDoor
open Go.RowKit

set_option maxRecDepth 100000 in
theorem refInf_any (f : Nat) (hf : f < 18446744073709551616) (b : Bool) (hb : (fkind f == 2) = b) (w : World) :
    Calls Tryz.prog 57 #[.int .u64 (f : Int)] w fun e w' => e = .returned (.bool b) ∧ w = w' := by
  have HK := Lib.hid hb
  clear hb
  go_enter Tryz.func57, Tryz.ntmps57
  go_wp2_with fail
  refine (refKind_any f hf _).mono ?_
  rintro e w' ⟨rfl, rfl⟩
  go_wp2
  go_ret
  exact ⟨ret_bool HK.out, rfl⟩

set_option maxRecDepth 100000 in
theorem refZero_any (f : Nat) (hf : f < 18446744073709551616) (b : Bool) (hb : (fkind f == 0) = b) (w : World) :
    Calls Tryz.prog 58 #[.int .u64 (f : Int)] w fun e w' => e = .returned (.bool b) ∧ w = w' := by
  have HK := Lib.hid hb
  clear hb
  go_enter Tryz.func58, Tryz.ntmps58
  go_wp2_with fail
  refine (refKind_any f hf _).mono ?_
  rintro e w' ⟨rfl, rfl⟩
  go_wp2
  go_ret
  exact ⟨ret_bool HK.out, rfl⟩
end Go.Proofs.YtolghagbpnjpgaaGreatDoor

namespace Go.Proofs.YtolghagbpnjpgaaGreatDoor
open Go.RowKit

theorem kind_inf (f : Nat) : (fkind f == 2) = infB f := by
  have h := fkind_cases f
  unfold infB
  generalize fkind f = k at *
  generalize fmag f = m at *
  by_cases h1 : m = 9218868437227405312
  · rw [decide_eq_true h1, beq_iff_eq]; omega
  · rw [decide_eq_false h1, beq_eq_false_iff_ne]; omega
theorem kind_zero (f : Nat) : (fkind f == 0) = zeroB f := by
  have h := fkind_cases f
  unfold zeroB
  generalize fkind f = k at *
  generalize fmag f = m at *
  by_cases h1 : m = 0
  · rw [decide_eq_true h1, beq_iff_eq]; omega
  · rw [decide_eq_false h1, beq_eq_false_iff_ne]; omega
theorem inf_self {a : Nat} (ha : a < 18446744073709551616) (hi : infB a = true) : a = 9218868437227405312 + sgz (fneg a) := by
  have h1 := f_parts ha
  have h2 : fmag a = 9218868437227405312 := of_decide_eq_true hi
  omega
theorem fadd_nan {a b : Nat} {mode : Int} (h : (nanB a || nanB b) = true) : faddF a b mode = 9221120237041090560 := by
  unfold faddF
  rw [add_form, h]
  rfl
theorem fadd_inf2 {a b : Nat} {mode : Int} (ha : a < 18446744073709551616) (ia : infB a = true) (ib : infB b = true) (h : b ≠ a) : faddF a b mode = 9221120237041090560 := by
  have e := inf_self ha ia
  have n1 := (inf_not ia).1
  have n2 := (inf_not ib).1
  unfold faddF
  rw [add_form, n1, n2, ia, ib, ← e, decide_eq_true h]
  rfl
theorem fadd_infa {a b : Nat} {mode : Int} (ha : a < 18446744073709551616) (ia : infB a = true) (nb : nanB b = false) (h : infB b = false ∨ b = a) : faddF a b mode = a := by
  have e := inf_self ha ia
  have n1 := (inf_not ia).1
  unfold faddF
  rw [add_form, n1, nb, ia, ← e]
  obtain h | h := h
  · rw [h]; rfl
  · rw [h]; simp
theorem fadd_infb {a b : Nat} {mode : Int} (ia : infB a = false) (na : nanB a = false) (ib : infB b = true) : faddF a b mode = b := by
  have n2 := inf_not ib
  unfold faddF
  rw [add_form, na, n2.1, n2.2, ia, ib]
  simp

set_option maxRecDepth 100000 in
theorem refEmpty_any (mode : Int) (w : World) :
    Calls Tryz.prog 62 #[.int .i64 mode] w fun e w' => e = .returned (.int .u64 ((cancel mode : Nat) : Int)) ∧ w = w' := by
  unfold cancel
  by_cases h : mode = 1
  all_goals
    simp only [h, if_true, if_false]
    go_enter Tryz.func62, Tryz.ntmps62
    go_wp2_with fail
    go_ret
    exact ⟨rfl, rfl⟩

set_option maxRecDepth 100000 in
set_option maxHeartbeats 2000000 in
theorem refAdd_nanA (a b : Nat) (mode : Int) (ha : a < 18446744073709551616) (na : nanB a = true) (w : World) :
    Calls Tryz.prog 8 #[.int .u64 (a : Int), .int .u64 (b : Int), .int .i64 mode] w fun e w' => e = .returned (.int .u64 ((faddF a b mode : Nat) : Int)) ∧ Ext w w' := by
  rw [fadd_nan (by rw [na]; rfl)]
  have NA := Lib.hid (refNan_any a ha true (na))
  clear na ha
  go_enter Tryz.func8, Tryz.ntmps8
  go_wp2_with (first | (go_at_call 56; (with_reducible refine (NA.out _).mono ?_); rintro e w' ⟨rfl, rfl⟩))
  go_ret
  exact ⟨rfl, Below.refl _ _⟩

set_option maxRecDepth 100000 in
set_option maxHeartbeats 2000000 in
theorem refAdd_nanB (a b : Nat) (mode : Int) (ha : a < 18446744073709551616) (hb : b < 18446744073709551616) (na : nanB a = false) (nb : nanB b = true) (w : World) :
    Calls Tryz.prog 8 #[.int .u64 (a : Int), .int .u64 (b : Int), .int .i64 mode] w fun e w' => e = .returned (.int .u64 ((faddF a b mode : Nat) : Int)) ∧ Ext w w' := by
  rw [fadd_nan (by rw [na, nb]; rfl)]
  have NA := Lib.hid (refNan_any a ha false (na))
  have NB := Lib.hid (refNan_any b hb true (nb))
  clear na nb ha hb
  go_enter Tryz.func8, Tryz.ntmps8
  go_wp2_with (first | (go_at_call 56; (with_reducible refine (NA.out _).mono ?_); rintro e w' ⟨rfl, rfl⟩) | (go_at_call 56; (with_reducible refine (NB.out _).mono ?_); rintro e w' ⟨rfl, rfl⟩))
  go_ret
  exact ⟨rfl, Below.refl _ _⟩

set_option maxRecDepth 100000 in
set_option maxHeartbeats 2000000 in
theorem refAdd_inf2 (a b : Nat) (mode : Int) (ha : a < 18446744073709551616) (hb : b < 18446744073709551616) (ia : infB a = true) (ib : infB b = true) (h : b ≠ a) (w : World) :
    Calls Tryz.prog 8 #[.int .u64 (a : Int), .int .u64 (b : Int), .int .i64 mode] w fun e w' => e = .returned (.int .u64 ((faddF a b mode : Nat) : Int)) ∧ Ext w w' := by
  rw [fadd_inf2 ha ia ib h]
  have NA := Lib.hid (refNan_any a ha false ((inf_not ia).1))
  have NB := Lib.hid (refNan_any b hb false ((inf_not ib).1))
  have IA := Lib.hid (refInf_any a ha true ((kind_inf a).trans (ia)))
  have IB := Lib.hid (refInf_any b hb true ((kind_inf b).trans (ib)))
  have hn : ¬ (a : Int) = (b : Int) := by omega
  clear ia ib ha hb h
  go_enter Tryz.func8, Tryz.ntmps8
  go_wp2_with (first | (go_at_call 56; (with_reducible refine (NA.out _).mono ?_); rintro e w' ⟨rfl, rfl⟩) | (go_at_call 56; (with_reducible refine (NB.out _).mono ?_); rintro e w' ⟨rfl, rfl⟩) | (go_at_call 57; (with_reducible refine (IA.out _).mono ?_); rintro e w' ⟨rfl, rfl⟩) | (go_at_call 57; (with_reducible refine (IB.out _).mono ?_); rintro e w' ⟨rfl, rfl⟩))
  go_ret
  exact ⟨rfl, Below.refl _ _⟩

set_option maxRecDepth 100000 in
set_option maxHeartbeats 2000000 in
theorem refAdd_infA (a b : Nat) (mode : Int) (ha : a < 18446744073709551616) (hb : b < 18446744073709551616) (ia : infB a = true) (nb : nanB b = false) (ib : infB b = false) (w : World) :
    Calls Tryz.prog 8 #[.int .u64 (a : Int), .int .u64 (b : Int), .int .i64 mode] w fun e w' => e = .returned (.int .u64 ((faddF a b mode : Nat) : Int)) ∧ Ext w w' := by
  rw [fadd_infa ha ia nb (.inl ib)]
  have NA := Lib.hid (refNan_any a ha false ((inf_not ia).1))
  have NB := Lib.hid (refNan_any b hb false (nb))
  have IA := Lib.hid (refInf_any a ha true ((kind_inf a).trans (ia)))
  have IB := Lib.hid (refInf_any b hb false ((kind_inf b).trans (ib)))
  clear ia ib ha hb nb
  go_enter Tryz.func8, Tryz.ntmps8
  go_wp2_with (first | (go_at_call 56; (with_reducible refine (NA.out _).mono ?_); rintro e w' ⟨rfl, rfl⟩) | (go_at_call 56; (with_reducible refine (NB.out _).mono ?_); rintro e w' ⟨rfl, rfl⟩) | (go_at_call 57; (with_reducible refine (IA.out _).mono ?_); rintro e w' ⟨rfl, rfl⟩) | (go_at_call 57; (with_reducible refine (IB.out _).mono ?_); rintro e w' ⟨rfl, rfl⟩))
  go_ret
  exact ⟨rfl, Below.refl _ _⟩

set_option maxRecDepth 100000 in
set_option maxHeartbeats 2000000 in
theorem refAdd_infB (a b : Nat) (mode : Int) (ha : a < 18446744073709551616) (hb : b < 18446744073709551616) (ib : infB b = true) (na : nanB a = false) (ia : infB a = false) (w : World) :
    Calls Tryz.prog 8 #[.int .u64 (a : Int), .int .u64 (b : Int), .int .i64 mode] w fun e w' => e = .returned (.int .u64 ((faddF a b mode : Nat) : Int)) ∧ Ext w w' := by
  rw [fadd_infb ia na ib]
  have NA := Lib.hid (refNan_any a ha false (na))
  have NB := Lib.hid (refNan_any b hb false ((inf_not ib).1))
  have IA := Lib.hid (refInf_any a ha false ((kind_inf a).trans (ia)))
  have IB := Lib.hid (refInf_any b hb true ((kind_inf b).trans (ib)))
  clear ia ib ha hb na
  go_enter Tryz.func8, Tryz.ntmps8
  go_wp2_with (first | (go_at_call 56; (with_reducible refine (NA.out _).mono ?_); rintro e w' ⟨rfl, rfl⟩) | (go_at_call 56; (with_reducible refine (NB.out _).mono ?_); rintro e w' ⟨rfl, rfl⟩) | (go_at_call 57; (with_reducible refine (IA.out _).mono ?_); rintro e w' ⟨rfl, rfl⟩) | (go_at_call 57; (with_reducible refine (IB.out _).mono ?_); rintro e w' ⟨rfl, rfl⟩))
  go_ret
  exact ⟨rfl, Below.refl _ _⟩

set_option maxRecDepth 100000 in
set_option maxHeartbeats 2000000 in
theorem refAdd_infS (a : Nat) (mode : Int) (ha : a < 18446744073709551616) (ia : infB a = true) (w : World) :
    Calls Tryz.prog 8 #[.int .u64 (a : Int), .int .u64 (a : Int), .int .i64 mode] w fun e w' => e = .returned (.int .u64 ((faddF a a mode : Nat) : Int)) ∧ Ext w w' := by
  rw [fadd_infa ha ia (inf_not ia).1 (.inr rfl)]
  have NA := Lib.hid (refNan_any a ha false ((inf_not ia).1))
  have IA := Lib.hid (refInf_any a ha true ((kind_inf a).trans (ia)))
  clear ia ha
  go_enter Tryz.func8, Tryz.ntmps8
  go_wp2_with (first | (go_at_call 56; (with_reducible refine (NA.out _).mono ?_); rintro e w' ⟨rfl, rfl⟩) | (go_at_call 57; (with_reducible refine (IA.out _).mono ?_); rintro e w' ⟨rfl, rfl⟩))
  go_ret
  exact ⟨rfl, Below.refl _ _⟩
end Go.Proofs.YtolghagbpnjpgaaGreatDoor
