import Derived.Test.YtolghagbpnjpgaaDoorIMonoU4
import Derived.Test.YtolghagbpnjpgaaDoorIMonoU3
import Derived.Test.YtolghagbpnjpgaaDoorRows
import Derived.Test.YtolghagbpnjpgaaDoorIMonoU1
import Derived.WalkKit
import Derived.WalkSpells
import Derived.WalkLawsBesides
namespace Go.Proofs.YtolghagbpnjpgaaDoor

/-- N 2^e is A 2^m -/
def Num (N : Nat) (e : Int) (A : Nat) (m : Int) : Prop := ∃ a b : Nat, N * 2 ^ a = A * 2 ^ b ∧ e - a = m - b

theorem Num.fla {N A : Nat} {e m : Int} (h : Num N e A m) (h0 : N ≠ 0) (neg : Bool) (mode : Int) : fla neg N e false mode = fla neg A m false mode := by
  obtain ⟨a, b, h1, h2⟩ := h
  exact fla_eq neg mode h0 h1 h2
theorem Num.refl (N : Nat) (e : Int) : Num N e N e := ⟨0, 0, rfl, rfl⟩
theorem Num.shift {N A : Nat} {e m : Int} (h : Num N e A m) (k : Nat) : Num (N * 2 ^ k) (e - k) A m := by
  obtain ⟨a, b, h1, h2⟩ := h
  exact ⟨a, b + k, by rw [Nat.mul_right_comm, h1, Nat.pow_add, Nat.mul_assoc], by push_cast; omega⟩
theorem Num.unit (N : Nat) (k : Nat) {e m : Int} (h : e = m + k) : Num N e (N * 2 ^ k) m := ⟨k, 0, by simp, by push_cast; omega⟩

theorem sum_value {G L A B : Nat} {eG eL m : Int} {d : Nat} (hG : Num G eG A m) (hL : Num L eL B m) (hd : (d : Int) = eG - eL) :
    Num (G * 2 ^ d + L) eL (A + B) m ∧ Num (G * 2 ^ d - L) eL (A - B) m ∧ (G * 2 ^ d = L ↔ A = B) ∧ (L < G * 2 ^ d ↔ B < A) := by
  obtain ⟨a, b, h1, h2⟩ := hG
  obtain ⟨p, q, h3, h4⟩ := hL
  have e1 : G * 2 ^ d * 2 ^ (p + b) = A * 2 ^ (b + q) := by
    rw [Nat.mul_assoc, ← Nat.pow_add, show d + (p + b) = a + q by omega, Nat.pow_add, ← Nat.mul_assoc, h1, Nat.mul_assoc, ← Nat.pow_add]
  have e2 : L * 2 ^ (p + b) = B * 2 ^ (b + q) := by
    rw [Nat.pow_add, ← Nat.mul_assoc, h3, Nat.mul_assoc, ← Nat.pow_add, Nat.add_comm q b]
  have p1 : 0 < 2 ^ (p + b) := Nat.pow_pos (by omega)
  have p2 : 0 < 2 ^ (b + q) := Nat.pow_pos (by omega)
  refine ⟨⟨p + b, b + q, by rw [Nat.add_mul, Nat.add_mul, e1, e2], by push_cast; omega⟩, ⟨p + b, b + q, by rw [Nat.sub_mul, Nat.sub_mul, e1, e2], by push_cast; omega⟩, ?_, ?_⟩
  · rw [← Nat.mul_right_cancel_iff p1, e1, e2, Nat.mul_right_cancel_iff p2]
  · rw [← Nat.mul_lt_mul_right p1, e1, e2, Nat.mul_lt_mul_right p2]

/-- the zero that is the sum of opposite numbers -/
def cancel (mode : Int) : Nat := if mode = 1 then 9223372036854775808 else 0
/-- a sum rounded: a zero by itself -/
def rsum (S : Int) (m : Int) (mode : Int) : Nat := if S = 0 then cancel mode else rnd S m mode
def sgi (s : Bool) (A : Nat) : Int := if s then -(A : Int) else (A : Int)

theorem rnd_sgi (s : Bool) {A : Nat} (h : A ≠ 0) (m : Int) (mode : Int) : rnd (sgi s A) m mode = sgz s + fla s A m false mode := by
  unfold rnd sgi flr sgz
  cases s with
  | true =>
    rw [if_pos rfl, decide_eq_true (show -(A : Int) < 0 by omega), Int.natAbs_neg, Int.natAbs_natCast, if_pos rfl]
  | false =>
    simp only [Bool.false_eq_true, if_false]
    rw [decide_eq_false (show ¬ (A : Int) < 0 by omega), Int.natAbs_natCast]
    simp

/-- the signs are the same -/
theorem rsum_same (s : Bool) {A B : Nat} (h : A ≠ 0) (m mode : Int) : rsum (sgi s A + sgi s B) m mode = sgz s + fla s (A + B) m false mode := by
  have e : sgi s A + sgi s B = sgi s (A + B) := by unfold sgi; cases s <;> simp <;> omega
  unfold rsum
  rw [e, if_neg (by unfold sgi; split <;> omega), rnd_sgi s (by omega)]
/-- .. or not: the greater one's sign -/
theorem rsum_diff (s : Bool) {A B : Nat} (h : B < A) (m mode : Int) : rsum (sgi s A + sgi (!s) B) m mode = sgz s + fla s (A - B) m false mode := by
  have e : sgi s A + sgi (!s) B = sgi s (A - B) := by unfold sgi; cases s <;> simp <;> omega
  unfold rsum
  rw [e, if_neg (by unfold sgi; split <;> omega), rnd_sgi s (by omega)]
theorem rsum_none (s : Bool) (A : Nat) (m mode : Int) : rsum (sgi s A + sgi (!s) A) m mode = cancel mode := by
  unfold rsum
  rw [if_pos (by unfold sgi; cases s <;> simp <;> omega)]

/-- the program's sum: the greater one halved, the lesser one moved down -/
theorem rs_plus (s : Bool) {G L A B : Nat} {eG eL m : Int} {d : Nat} (hG : Num G eG A m) (hL : Num L eL B m) (hd : (d : Int) = eG - eL + 1) (hd0 : 1 ≤ d) (hG1 : 2 ^ 54 ≤ G) (hG2 : G % 2 = 0) (mode : Int) :
    sgz s + fla s (G / 2 + L / 2 ^ d) (eL + d) (decide (L % 2 ^ d ≠ 0)) mode = rsum (sgi s A + sgi s B) m mode := by
  have hd1 : 1 ≤ d := hd0
  obtain ⟨c, rfl⟩ : ∃ c, d = c + 1 := ⟨d - 1, by omega⟩
  obtain ⟨v1, -, -, -⟩ := sum_value hG hL (d := c) (by omega)
  have eg : G / 2 * 2 ^ (c + 1) = G * 2 ^ c := by
    rw [Nat.pow_succ', ← Nat.mul_assoc]; congr 1; omega
  have hA : A ≠ 0 := by
    rintro rfl
    obtain ⟨a, b, h1, _⟩ := hG
    rw [Nat.zero_mul] at h1
    rcases Nat.mul_eq_zero.1 h1 with h2 | h2
    · omega
    · exact absurd h2 (Nat.pos_iff_ne_zero.1 (Nat.pow_pos (by omega)))
  rw [rsum_same s hA, fla_plus s mode (by omega), eg, v1.fla ?_ s mode]
  have := Nat.pow_pos (n := c) (show 0 < 2 by omega)
  have : 0 < G * 2 ^ c := Nat.mul_pos (by omega) this
  omega

/-- .. the program's difference -/
theorem rs_minus (s : Bool) {G L A B : Nat} {eG eL m : Int} {d : Nat} (hG : Num G eG A m) (hL : Num L eL B m) (hd : (d : Int) = eG - eL + 1) (hd0 : 1 ≤ d) (hG1 : 2 ^ 127 ≤ G) (hG2 : G % 2 = 0) (hL1 : L < 2 ^ 128) (hL2 : L % 2 ^ 22 = 0)
    (hGL : L ≤ G * 2 ^ (d - 1)) (mode : Int) :
    (G / 2 - L / 2 ^ d - (if L % 2 ^ d ≠ 0 then 1 else 0) = 0 → rsum (sgi s A + sgi (!s) B) m mode = cancel mode) ∧
    (G / 2 - L / 2 ^ d - (if L % 2 ^ d ≠ 0 then 1 else 0) ≠ 0 → sgz s + fla s (G / 2 - L / 2 ^ d - (if L % 2 ^ d ≠ 0 then 1 else 0)) (eL + d) (decide (L % 2 ^ d ≠ 0)) mode = rsum (sgi s A + sgi (!s) B) m mode) := by
  have hd1 : 1 ≤ d := hd0
  obtain ⟨c, rfl⟩ : ∃ c, d = c + 1 := ⟨d - 1, by omega⟩
  rw [show c + 1 - 1 = c by omega] at hGL
  obtain ⟨-, v2, v3, v4⟩ := sum_value hG hL (d := c) (by omega)
  have eg : G / 2 * 2 ^ (c + 1) = G * 2 ^ c := by
    rw [Nat.pow_succ', ← Nat.mul_assoc]; congr 1; omega
  have hp : 0 < 2 ^ (c + 1) := Nat.pow_pos (by omega)
  have ht : L % 2 ^ (c + 1) ≠ 0 → 2 ^ 53 ≤ G / 2 - L / 2 ^ (c + 1) - 1 := by
    intro h
    have hc : 22 ≤ c := by
      rcases Nat.lt_or_ge c 22 with h1 | h1
      · exfalso
        apply h
        obtain ⟨k, hk⟩ := Nat.dvd_of_mod_eq_zero hL2
        rw [hk, show 22 = c + 1 + (21 - c) by omega, Nat.pow_add, Nat.mul_assoc]
        exact Nat.mul_mod_right _ _
      · exact h1
    have h2 : L / 2 ^ (c + 1) ≤ L / 2 ^ 23 := Nat.div_le_div_left (Nat.pow_le_pow_right (by omega) (by omega)) (by decide)
    omega
  have hdm := Nat.div_add_mod L (2 ^ (c + 1))
  constructor
  · intro h
    have h1 : L % 2 ^ (c + 1) = 0 := by
      by_cases h1 : L % 2 ^ (c + 1) = 0
      · exact h1
      · have := ht h1; rw [if_pos h1] at h; omega
    have h2 : G / 2 ≤ L / 2 ^ (c + 1) := by rw [if_neg (by simpa using h1)] at h; omega
    have h3 : G / 2 * 2 ^ (c + 1) ≤ L := by
      have := Nat.mul_le_mul_right (2 ^ (c + 1)) h2
      rw [Nat.mul_comm (L / _)] at this
      omega
    have : A = B := v3.1 (by omega)
    rw [this]
    exact rsum_none s B m mode
  · intro h
    have h1 : L < G * 2 ^ c := by
      rcases Nat.lt_or_ge L (G * 2 ^ c) with h1 | h1
      · exact h1
      · exfalso
        have h2 : L = G / 2 * 2 ^ (c + 1) := by omega
        apply h
        rw [h2, Nat.mul_div_cancel _ hp, Nat.mul_mod_left]
        simp
    rw [rsum_diff s (v4.1 h1), fla_minus s mode (by omega) ht, eg, v2.fla (by omega) s mode]
end Go.Proofs.YtolghagbpnjpgaaDoor

namespace Go.Proofs.YtolghagbpnjpgaaDoor
open Go.RowKit

theorem ret_bool {a b : Bool} (h : a = b) : Ending.returned (.bool a) = .returned (.bool b) := by rw [h]
theorem ret_int {k : IntKind} {a b : Int} (h : a = b) : Ending.returned (.int k a) = .returned (.int k b) := by rw [h]

def nanB (f : Nat) : Bool := decide (9218868437227405312 < fmag f)
def infB (f : Nat) : Bool := decide (fmag f = 9218868437227405312)
def zeroB (f : Nat) : Bool := decide (fmag f = 0)
/-- the kind of a float -/
def fkind (f : Nat) : Int := if fmag f = 0 then 0 else if fmag f < 9218868437227405312 then 1 else if fmag f = 9218868437227405312 then 2 else 3
def fnegF (f : Nat) : Nat := if nanB f then 9221120237041090560 else sgz (!fneg f) + fmag f
def fabsF (f : Nat) : Nat := if nanB f then 9221120237041090560 else fmag f
/-- the place in the order -/
def frank (f : Nat) : Int := if fneg f then -(fmag f : Int) else (fmag f : Int)
set_option maxRecDepth 100000 in
theorem isNaN_any (f : Nat) (hf : f < 18446744073709551616) (w : World) :
    Calls Tryd.prog 40 #[.int .u64 (f : Int)] w fun e w' => e = .returned (.bool (nanB f)) ∧ w = w' := by
  have ha := andNot_sign hf
  have hm := fmag_lt f
  unfold nanB
  generalize fmag f = m at *
  go_enter Tryd.func40, Tryd.ntmps40
  go_wp2
  go_ret
  exact ⟨ret_bool (by first | rfl | exact decide_eq_decide.2 (by omega) | (rw [Bool.eq_iff_iff]; simp; try omega)), rfl⟩

set_option maxRecDepth 100000 in
theorem isInf_any (f : Nat) (hf : f < 18446744073709551616) (w : World) :
    Calls Tryd.prog 54 #[.int .u64 (f : Int)] w fun e w' => e = .returned (.bool (infB f)) ∧ w = w' := by
  have ha := andNot_sign hf
  have hm := fmag_lt f
  unfold infB
  generalize fmag f = m at *
  go_enter Tryd.func54, Tryd.ntmps54
  go_wp2
  go_ret
  exact ⟨ret_bool (by first | rfl | exact decide_eq_decide.2 (by omega) | (rw [Bool.eq_iff_iff]; simp; try omega)), rfl⟩

set_option maxRecDepth 100000 in
theorem isZero_any (f : Nat) (hf : f < 18446744073709551616) (w : World) :
    Calls Tryd.prog 55 #[.int .u64 (f : Int)] w fun e w' => e = .returned (.bool (zeroB f)) ∧ w = w' := by
  have ha := andNot_sign hf
  have hm := fmag_lt f
  unfold zeroB
  generalize fmag f = m at *
  go_enter Tryd.func55, Tryd.ntmps55
  go_wp2
  go_ret
  exact ⟨ret_bool (by first | rfl | exact decide_eq_decide.2 (by omega) | (rw [Bool.eq_iff_iff]; simp; try omega)), rfl⟩

set_option maxRecDepth 100000 in
theorem isNegative_any (f : Nat) (hf : f < 18446744073709551616) (w : World) :
    Calls Tryd.prog 71 #[.int .u64 (f : Int)] w fun e w' => e = .returned (.bool (fneg f)) ∧ w = w' := by
  have ha := and_sign hf
  cases hn : fneg f
  all_goals
    rw [hn] at ha
    clear hn
    unfold sgz at ha
    simp only [if_true, Bool.false_eq_true, if_false] at ha
    go_enter Tryd.func71, Tryd.ntmps71
    go_wp2
    go_ret
    exact ⟨ret_bool (by first | rfl | decide | simp), rfl⟩

set_option maxRecDepth 100000 in
theorem signOf_any (f : Nat) (hf : f < 18446744073709551616) (w : World) :
    Calls Tryd.prog 53 #[.int .u64 (f : Int)] w fun e w' => e = .returned (.int .u64 ((sgz (fneg f) : Nat) : Int)) ∧ w = w' := by
  have ha := and_sign hf
  generalize sgz (fneg f) = z at *
  go_enter Tryd.func53, Tryd.ntmps53
  go_wp2
  go_ret
  exact ⟨rfl, rfl⟩

set_option maxRecDepth 100000 in
theorem cancelled_any (mode : Int) (w : World) :
    Calls Tryd.prog 81 #[.int .i64 mode] w fun e w' => e = .returned (.int .u64 ((cancel mode : Nat) : Int)) ∧ w = w' := by
  unfold cancel
  by_cases h : mode = 1
  all_goals
    go_enter Tryd.func81, Tryd.ntmps81
    go_wp2
    go_ret
    exact ⟨ret_int (by first | rfl | (rw [if_pos h]; rfl) | (rw [if_neg h]; rfl)), rfl⟩

theorem fkind_cases (f : Nat) : fmag f = 0 ∧ fkind f = 0 ∨ fmag f ≠ 0 ∧ fmag f < 9218868437227405312 ∧ fkind f = 1 ∨ fmag f = 9218868437227405312 ∧ fkind f = 2 ∨ 9218868437227405312 < fmag f ∧ fkind f = 3 := by
  unfold fkind
  by_cases h0 : fmag f = 0
  · left; exact ⟨h0, if_pos h0⟩
  · right
    by_cases h1 : fmag f < 9218868437227405312
    · left; exact ⟨h0, h1, by rw [if_neg h0, if_pos h1]⟩
    · right
      by_cases h2 : fmag f = 9218868437227405312
      · left; exact ⟨h2, by rw [if_neg h0, if_neg h1, if_pos h2]⟩
      · right; exact ⟨by omega, by rw [if_neg h0, if_neg h1, if_neg h2]⟩

set_option maxRecDepth 100000 in
theorem kind_any (f : Nat) (hf : f < 18446744073709551616) (w : World) :
    Calls Tryd.prog 84 #[.int .u64 (f : Int)] w fun e w' => e = .returned (.int .i64 (fkind f)) ∧ w = w' := by
  have ha := andNot_sign hf
  have hc := fkind_cases f
  generalize fkind f = k at *
  generalize fmag f = m at *
  rcases hc with ⟨h0, rfl⟩ | ⟨h0, h1, rfl⟩ | ⟨h0, rfl⟩ | ⟨h0, rfl⟩
  · have b0 : ((m : Int) == 0) = true := by simp; omega
    clear h0
    go_enter Tryd.func84, Tryd.ntmps84
    go_wp2
    go_ret
    exact ⟨rfl, rfl⟩
  · have b0 : ((m : Int) == 0) = false := by simp; omega
    have b1 : (m : Int) < 9218868437227405312 := by omega
    clear h0 h1
    go_enter Tryd.func84, Tryd.ntmps84
    go_wp2
    go_ret
    exact ⟨rfl, rfl⟩
  · have b0 : ((m : Int) == 0) = false := by simp; omega
    have b1 : ¬ (m : Int) < 9218868437227405312 := by omega
    have b2 : ((m : Int) == 9218868437227405312) = true := by rw [beq_iff_eq]; omega
    clear h0
    go_enter Tryd.func84, Tryd.ntmps84
    go_wp2
    go_ret
    exact ⟨rfl, rfl⟩
  · have b0 : ((m : Int) == 0) = false := by simp; omega
    have b1 : ¬ (m : Int) < 9218868437227405312 := by omega
    have b2 : ((m : Int) == 9218868437227405312) = false := by rw [beq_eq_false_iff_ne]; omega
    clear h0
    go_enter Tryd.func84, Tryd.ntmps84
    go_wp2
    go_ret
    exact ⟨rfl, rfl⟩

def finB (f : Nat) : Bool := decide (fmag f < 9218868437227405312)
set_option maxRecDepth 100000 in
theorem isFinite_any (f : Nat) (hf : f < 18446744073709551616) (w : World) :
    Calls Tryd.prog 48 #[.int .u64 (f : Int)] w fun e w' => e = .returned (.bool (finB f)) ∧ w = w' := by
  have ha := andNot_sign hf
  have hb : finB f = decide ((fmag f : Int) < 9218868437227405312) := decide_eq_decide.2 (by omega)
  rw [hb]
  clear hb
  generalize fmag f = m at *
  go_enter Tryd.func48, Tryd.ntmps48
  go_wp2
  go_ret
  exact ⟨rfl, rfl⟩

set_option maxRecDepth 100000 in
theorem negF_any (f : Nat) (hf : f < 18446744073709551616) (w : World) :
    Calls Tryd.prog 51 #[.int .u64 (f : Int)] w fun e w' => e = .returned (.int .u64 ((fnegF f : Nat) : Int)) ∧ w = w' := by
  have ha := xor_sign hf
  unfold fnegF
  generalize sgz (!fneg f) + fmag f = v at *
  cases hn : nanB f
  all_goals
    have HN := Lib.hid hn
    clear hn
    go_enter Tryd.func51, Tryd.ntmps51
    go_wp2_with (go_at_call 40; refine (isNaN_any f hf _).mono ?_; rw [HN.out]; rintro e w' ⟨rfl, rfl⟩)
    go_ret
    exact ⟨rfl, rfl⟩

set_option maxRecDepth 100000 in
theorem absF_any (f : Nat) (hf : f < 18446744073709551616) (w : World) :
    Calls Tryd.prog 59 #[.int .u64 (f : Int)] w fun e w' => e = .returned (.int .u64 ((fabsF f : Nat) : Int)) ∧ w = w' := by
  have ha := andNot_sign hf
  unfold fabsF
  generalize fmag f = v at *
  cases hn : nanB f
  all_goals
    have HN := Lib.hid hn
    clear hn
    go_enter Tryd.func59, Tryd.ntmps59
    go_wp2_with (go_at_call 40; refine (isNaN_any f hf _).mono ?_; rw [HN.out]; rintro e w' ⟨rfl, rfl⟩)
    go_ret
    exact ⟨rfl, rfl⟩

set_option maxRecDepth 100000 in
theorem rank_any (f : Nat) (hf : f < 18446744073709551616) (w : World) :
    Calls Tryd.prog 42 #[.int .u64 (f : Int)] w fun e w' => e = .returned (.int .i64 (frank f)) ∧ w = w' := by
  have ha := andNot_sign hf
  have hm := fmag_lt f
  unfold frank
  generalize fmag f = m at *
  cases hn : fneg f
  all_goals
    have HN := Lib.hid hn
    clear hn
    go_enter Tryd.func42, Tryd.ntmps42
    go_wp2_with (go_at_call 71; refine (isNegative_any f hf _).mono ?_; rw [HN.out]; rintro e w' ⟨rfl, rfl⟩)
    go_ret
    exact ⟨ret_int (by first | rfl | simp | (simp; omega)), rfl⟩

theorem fnegF_lt {f : Nat} : fnegF f < 18446744073709551616 := by
  unfold fnegF
  have := fmag_lt f
  have := sgz_le (!fneg f)
  split <;> omega
end Go.Proofs.YtolghagbpnjpgaaDoor
