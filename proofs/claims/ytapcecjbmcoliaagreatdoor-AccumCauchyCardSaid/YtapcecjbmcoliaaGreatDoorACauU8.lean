import Derived.Test.YtapcecjbmcoliaaGreatDoorACauU7
import Derived.Test.YtapcecjbmcoliaaGreatDoorACauU2
namespace Go.Proofs.YtapcecjbmcoliaaGreatDoor

/-- N 2^e is A 2^m -/
def Num (N : Nat) (e : Int) (A : Nat) (m : Int) : Prop := ∃ a b : Nat, N * 2 ^ a = A * 2 ^ b ∧ e - a = m - b

theorem Num.fla {N A : Nat} {e m : Int} (h : Num N e A m) (h0 : N ≠ 0) (neg : Bool) (mode : Int) : fla neg N e false mode = fla neg A m false mode := by
  obtain ⟨a, b, h1, h2⟩ := h
  exact fla_eq neg mode h0 h1 h2
theorem Num.refl (N : Nat) (e : Int) : Num N e N e := ⟨0, 0, rfl, rfl⟩
theorem Num.shift {N A : Nat} {e m : Int} (h : Num N e A m) (k : Nat) : Num (N * 2 ^ k) (e - k) A m := by
  obtain ⟨a, b, h1, h2⟩ := h
  exact ⟨a, b + k, by rw [Nat.mul_right_comm, h1, Nat.pow_add, Nat.mul_assoc], by push_cast; omega⟩
theorem Num.unit (N : Nat) (k : Nat) {e m : Int} (h : e = m + k) : Num N e (N * 2 ^ k) m := ⟨k, 0, by simp, by push_cast; omega⟩

theorem sum_value {G L A B : Nat} {eG eL m : Int} {d : Nat} (hG : Num G eG A m) (hL : Num L eL B m) (hd : (d : Int) = eG - eL) :
    Num (G * 2 ^ d + L) eL (A + B) m ∧ Num (G * 2 ^ d - L) eL (A - B) m ∧ (G * 2 ^ d = L ↔ A = B) ∧ (L < G * 2 ^ d ↔ B < A) := by
  obtain ⟨a, b, h1, h2⟩ := hG
  obtain ⟨p, q, h3, h4⟩ := hL
  have e1 : G * 2 ^ d * 2 ^ (p + b) = A * 2 ^ (b + q) := by
    rw [Nat.mul_assoc, ← Nat.pow_add, show d + (p + b) = a + q by omega, Nat.pow_add, ← Nat.mul_assoc, h1, Nat.mul_assoc, ← Nat.pow_add]
  have e2 : L * 2 ^ (p + b) = B * 2 ^ (b + q) := by
    rw [Nat.pow_add, ← Nat.mul_assoc, h3, Nat.mul_assoc, ← Nat.pow_add, Nat.add_comm q b]
  have p1 : 0 < 2 ^ (p + b) := Nat.pow_pos (by omega)
  have p2 : 0 < 2 ^ (b + q) := Nat.pow_pos (by omega)
  refine ⟨⟨p + b, b + q, by rw [Nat.add_mul, Nat.add_mul, e1, e2], by push_cast; omega⟩, ⟨p + b, b + q, by rw [Nat.sub_mul, Nat.sub_mul, e1, e2], by push_cast; omega⟩, ?_, ?_⟩
  · rw [← Nat.mul_right_cancel_iff p1, e1, e2, Nat.mul_right_cancel_iff p2]
  · rw [← Nat.mul_lt_mul_right p1, e1, e2, Nat.mul_lt_mul_right p2]

/-- the zero that is the sum of opposite numbers -/
def cancel (mode : Int) : Nat := if mode = 1 then 9223372036854775808 else 0
/-- a sum rounded: a zero by itself -/
def rsum (S : Int) (m : Int) (mode : Int) : Nat := if S = 0 then cancel mode else rnd S m mode
def sgi (s : Bool) (A : Nat) : Int := if s then -(A : Int) else (A : Int)

theorem rnd_sgi (s : Bool) {A : Nat} (h : A ≠ 0) (m : Int) (mode : Int) : rnd (sgi s A) m mode = sgz s + fla s A m false mode := by
  unfold rnd sgi flr sgz
  cases s with
  | true =>
    rw [if_pos rfl, decide_eq_true (show -(A : Int) < 0 by omega), Int.natAbs_neg, Int.natAbs_natCast, if_pos rfl]
  | false =>
    simp only [Bool.false_eq_true, if_false]
    rw [decide_eq_false (show ¬ (A : Int) < 0 by omega), Int.natAbs_natCast]
    simp

/-- the signs are the same -/
theorem rsum_same (s : Bool) {A B : Nat} (h : A ≠ 0) (m mode : Int) : rsum (sgi s A + sgi s B) m mode = sgz s + fla s (A + B) m false mode := by
  have e : sgi s A + sgi s B = sgi s (A + B) := by unfold sgi; cases s <;> simp <;> omega
  unfold rsum
  rw [e, if_neg (by unfold sgi; split <;> omega), rnd_sgi s (by omega)]
/-- .. or not: the greater one's sign -/
theorem rsum_diff (s : Bool) {A B : Nat} (h : B < A) (m mode : Int) : rsum (sgi s A + sgi (!s) B) m mode = sgz s + fla s (A - B) m false mode := by
  have e : sgi s A + sgi (!s) B = sgi s (A - B) := by unfold sgi; cases s <;> simp <;> omega
  unfold rsum
  rw [e, if_neg (by unfold sgi; split <;> omega), rnd_sgi s (by omega)]
theorem rsum_none (s : Bool) (A : Nat) (m mode : Int) : rsum (sgi s A + sgi (!s) A) m mode = cancel mode := by
  unfold rsum
  rw [if_pos (by unfold sgi; cases s <;> simp <;> omega)]

/-- the program's sum: the greater one halved, the lesser one moved down -/
theorem rs_plus (s : Bool) {G L A B : Nat} {eG eL m : Int} {d : Nat} (hG : Num G eG A m) (hL : Num L eL B m) (hd : (d : Int) = eG - eL + 1) (hd0 : 1 ≤ d) (hG1 : 2 ^ 54 ≤ G) (hG2 : G % 2 = 0) (mode : Int) :
    sgz s + fla s (G / 2 + L / 2 ^ d) (eL + d) (decide (L % 2 ^ d ≠ 0)) mode = rsum (sgi s A + sgi s B) m mode := by
  have hd1 : 1 ≤ d := hd0
  obtain ⟨c, rfl⟩ : ∃ c, d = c + 1 := ⟨d - 1, by omega⟩
  obtain ⟨v1, -, -, -⟩ := sum_value hG hL (d := c) (by omega)
  have eg : G / 2 * 2 ^ (c + 1) = G * 2 ^ c := by
    rw [Nat.pow_succ', ← Nat.mul_assoc]; congr 1; omega
  have hA : A ≠ 0 := by
    rintro rfl
    obtain ⟨a, b, h1, _⟩ := hG
    rw [Nat.zero_mul] at h1
    rcases Nat.mul_eq_zero.1 h1 with h2 | h2
    · omega
    · exact absurd h2 (Nat.pos_iff_ne_zero.1 (Nat.pow_pos (by omega)))
  rw [rsum_same s hA, fla_plus s mode (by omega), eg, v1.fla ?_ s mode]
  have := Nat.pow_pos (n := c) (show 0 < 2 by omega)
  have : 0 < G * 2 ^ c := Nat.mul_pos (by omega) this
  omega

/-- .. the program's difference -/
theorem rs_minus (s : Bool) {G L A B : Nat} {eG eL m : Int} {d : Nat} (hG : Num G eG A m) (hL : Num L eL B m) (hd : (d : Int) = eG - eL + 1) (hd0 : 1 ≤ d) (hG1 : 2 ^ 127 ≤ G) (hG2 : G % 2 = 0) (hL1 : L < 2 ^ 128) (hL2 : L % 2 ^ 22 = 0)
    (hGL : L ≤ G * 2 ^ (d - 1)) (mode : Int) :
    (G / 2 - L / 2 ^ d - (if L % 2 ^ d ≠ 0 then 1 else 0) = 0 → rsum (sgi s A + sgi (!s) B) m mode = cancel mode) ∧
    (G / 2 - L / 2 ^ d - (if L % 2 ^ d ≠ 0 then 1 else 0) ≠ 0 → sgz s + fla s (G / 2 - L / 2 ^ d - (if L % 2 ^ d ≠ 0 then 1 else 0)) (eL + d) (decide (L % 2 ^ d ≠ 0)) mode = rsum (sgi s A + sgi (!s) B) m mode) := by
  have hd1 : 1 ≤ d := hd0
  obtain ⟨c, rfl⟩ : ∃ c, d = c + 1 := ⟨d - 1, by omega⟩
  rw [show c + 1 - 1 = c by omega] at hGL
  obtain ⟨-, v2, v3, v4⟩ := sum_value hG hL (d := c) (by omega)
  have eg : G / 2 * 2 ^ (c + 1) = G * 2 ^ c := by
    rw [Nat.pow_succ', ← Nat.mul_assoc]; congr 1; omega
  have hp : 0 < 2 ^ (c + 1) := Nat.pow_pos (by omega)
  have ht : L % 2 ^ (c + 1) ≠ 0 → 2 ^ 53 ≤ G / 2 - L / 2 ^ (c + 1) - 1 := by
    intro h
    have hc : 22 ≤ c := by
      rcases Nat.lt_or_ge c 22 with h1 | h1
      · exfalso
        apply h
        obtain ⟨k, hk⟩ := Nat.dvd_of_mod_eq_zero hL2
        rw [hk, show 22 = c + 1 + (21 - c) by omega, Nat.pow_add, Nat.mul_assoc]
        exact Nat.mul_mod_right _ _
      · exact h1
    have h2 : L / 2 ^ (c + 1) ≤ L / 2 ^ 23 := Nat.div_le_div_left (Nat.pow_le_pow_right (by omega) (by omega)) (by decide)
    omega
  have hdm := Nat.div_add_mod L (2 ^ (c + 1))
  constructor
  · intro h
    have h1 : L % 2 ^ (c + 1) = 0 := by
      by_cases h1 : L % 2 ^ (c + 1) = 0
      · exact h1
      · have := ht h1; rw [if_pos h1] at h; omega
    have h2 : G / 2 ≤ L / 2 ^ (c + 1) := by rw [if_neg (by simpa using h1)] at h; omega
    have h3 : G / 2 * 2 ^ (c + 1) ≤ L := by
      have := Nat.mul_le_mul_right (2 ^ (c + 1)) h2
      rw [Nat.mul_comm (L / _)] at this
      omega
    have : A = B := v3.1 (by omega)
    rw [this]
    exact rsum_none s B m mode
  · intro h
    have h1 : L < G * 2 ^ c := by
      rcases Nat.lt_or_ge L (G * 2 ^ c) with h1 | h1
      · exact h1
      · exfalso
        have h2 : L = G / 2 * 2 ^ (c + 1) := by omega
        apply h
        rw [h2, Nat.mul_div_cancel _ hp, Nat.mul_mod_left]
        simp
    rw [rsum_diff s (v4.1 h1), fla_minus s mode (by omega) ht, eg, v2.fla (by omega) s mode]
end Go.Proofs.YtapcecjbmcoliaaGreatDoor

namespace Go.Proofs.YtapcecjbmcoliaaGreatDoor
open Go.RowKit

theorem ret_bool {a b : Bool} (h : a = b) : Ending.returned (.bool a) = .returned (.bool b) := by rw [h]
theorem ret_int {k : IntKind} {a b : Int} (h : a = b) : Ending.returned (.int k a) = .returned (.int k b) := by rw [h]

def nanB (f : Nat) : Bool := decide (9218868437227405312 < fmag f)
def infB (f : Nat) : Bool := decide (fmag f = 9218868437227405312)
def zeroB (f : Nat) : Bool := decide (fmag f = 0)
/-- the kind of a float -/
def fkind (f : Nat) : Int := if fmag f = 0 then 0 else if fmag f < 9218868437227405312 then 1 else if fmag f = 9218868437227405312 then 2 else 3
def fabsF (f : Nat) : Nat := if nanB f then 9221120237041090560 else fmag f
/-- the place in the order -/
def frank (f : Nat) : Int := if fneg f then -(fmag f : Int) else (fmag f : Int)
set_option maxRecDepth 100000 in
theorem isNaN_any (f : Nat) (hf : f < 18446744073709551616) (w : World) :
    Calls Tryz.prog 55 #[.int .u64 (f : Int)] w fun e w' => e = .returned (.bool (nanB f)) ∧ w = w' := by
  have ha := andNot_sign hf
  have hm := fmag_lt f
  unfold nanB
  generalize fmag f = m at *
  go_enter Tryz.func55, Tryz.ntmps55
  go_wp2
  go_ret
  exact ⟨ret_bool (by first | rfl | exact decide_eq_decide.2 (by omega) | (rw [Bool.eq_iff_iff]; simp; try omega)), rfl⟩

set_option maxRecDepth 100000 in
theorem isInf_any (f : Nat) (hf : f < 18446744073709551616) (w : World) :
    Calls Tryz.prog 98 #[.int .u64 (f : Int)] w fun e w' => e = .returned (.bool (infB f)) ∧ w = w' := by
  have ha := andNot_sign hf
  have hm := fmag_lt f
  unfold infB
  generalize fmag f = m at *
  go_enter Tryz.func98, Tryz.ntmps98
  go_wp2
  go_ret
  exact ⟨ret_bool (by first | rfl | exact decide_eq_decide.2 (by omega) | (rw [Bool.eq_iff_iff]; simp; try omega)), rfl⟩

set_option maxRecDepth 100000 in
theorem isZero_any (f : Nat) (hf : f < 18446744073709551616) (w : World) :
    Calls Tryz.prog 40 #[.int .u64 (f : Int)] w fun e w' => e = .returned (.bool (zeroB f)) ∧ w = w' := by
  have ha := andNot_sign hf
  have hm := fmag_lt f
  unfold zeroB
  generalize fmag f = m at *
  go_enter Tryz.func40, Tryz.ntmps40
  go_wp2
  go_ret
  exact ⟨ret_bool (by first | rfl | exact decide_eq_decide.2 (by omega) | (rw [Bool.eq_iff_iff]; simp; try omega)), rfl⟩

set_option maxRecDepth 100000 in
theorem isNegative_any (f : Nat) (hf : f < 18446744073709551616) (w : World) :
    Calls Tryz.prog 43 #[.int .u64 (f : Int)] w fun e w' => e = .returned (.bool (fneg f)) ∧ w = w' := by
  have ha := and_sign hf
  cases hn : fneg f
  all_goals
    rw [hn] at ha
    clear hn
    unfold sgz at ha
    simp only [if_true, Bool.false_eq_true, if_false] at ha
    go_enter Tryz.func43, Tryz.ntmps43
    go_wp2
    go_ret
    exact ⟨ret_bool (by first | rfl | decide | simp), rfl⟩

set_option maxRecDepth 100000 in
theorem signOf_any (f : Nat) (hf : f < 18446744073709551616) (w : World) :
    Calls Tryz.prog 97 #[.int .u64 (f : Int)] w fun e w' => e = .returned (.int .u64 ((sgz (fneg f) : Nat) : Int)) ∧ w = w' := by
  have ha := and_sign hf
  generalize sgz (fneg f) = z at *
  go_enter Tryz.func97, Tryz.ntmps97
  go_wp2
  go_ret
  exact ⟨rfl, rfl⟩

set_option maxRecDepth 100000 in
theorem cancelled_any (mode : Int) (w : World) :
    Calls Tryz.prog 99 #[.int .i64 mode] w fun e w' => e = .returned (.int .u64 ((cancel mode : Nat) : Int)) ∧ w = w' := by
  unfold cancel
  by_cases h : mode = 1
  all_goals
    go_enter Tryz.func99, Tryz.ntmps99
    go_wp2
    go_ret
    exact ⟨ret_int (by first | rfl | (rw [if_pos h]; rfl) | (rw [if_neg h]; rfl)), rfl⟩

theorem fkind_cases (f : Nat) : fmag f = 0 ∧ fkind f = 0 ∨ fmag f ≠ 0 ∧ fmag f < 9218868437227405312 ∧ fkind f = 1 ∨ fmag f = 9218868437227405312 ∧ fkind f = 2 ∨ 9218868437227405312 < fmag f ∧ fkind f = 3 := by
  unfold fkind
  by_cases h0 : fmag f = 0
  · left; exact ⟨h0, if_pos h0⟩
  · right
    by_cases h1 : fmag f < 9218868437227405312
    · left; exact ⟨h0, h1, by rw [if_neg h0, if_pos h1]⟩
    · right
      by_cases h2 : fmag f = 9218868437227405312
      · left; exact ⟨h2, by rw [if_neg h0, if_neg h1, if_pos h2]⟩
      · right; exact ⟨by omega, by rw [if_neg h0, if_neg h1, if_neg h2]⟩

def finB (f : Nat) : Bool := decide (fmag f < 9218868437227405312)
set_option maxRecDepth 100000 in
theorem isFinite_any (f : Nat) (hf : f < 18446744073709551616) (w : World) :
    Calls Tryz.prog 39 #[.int .u64 (f : Int)] w fun e w' => e = .returned (.bool (finB f)) ∧ w = w' := by
  have ha := andNot_sign hf
  have hb : finB f = decide ((fmag f : Int) < 9218868437227405312) := decide_eq_decide.2 (by omega)
  rw [hb]
  clear hb
  generalize fmag f = m at *
  go_enter Tryz.func39, Tryz.ntmps39
  go_wp2
  go_ret
  exact ⟨rfl, rfl⟩

set_option maxRecDepth 100000 in
theorem absF_any (f : Nat) (hf : f < 18446744073709551616) (w : World) :
    Calls Tryz.prog 30 #[.int .u64 (f : Int)] w fun e w' => e = .returned (.int .u64 ((fabsF f : Nat) : Int)) ∧ w = w' := by
  have ha := andNot_sign hf
  unfold fabsF
  generalize fmag f = v at *
  cases hn : nanB f
  all_goals
    have HN := Lib.hid hn
    clear hn
    go_enter Tryz.func30, Tryz.ntmps30
    go_wp2_with (go_at_call 55; refine (isNaN_any f hf _).mono ?_; rw [HN.out]; rintro e w' ⟨rfl, rfl⟩)
    go_ret
    exact ⟨rfl, rfl⟩

end Go.Proofs.YtapcecjbmcoliaaGreatDoor

namespace Go.Proofs.YtapcecjbmcoliaaGreatDoor

theorem fplace_ge (N : Nat) (e : Int) : e + (Nat.log2 N : Int) - 52 ≤ fplace N e ∧ -1074 ≤ fplace N e ∧ (fplace N e = -1074 ∨ fplace N e = e + (Nat.log2 N : Int) - 52) := by unfold fplace; omega

/-- bits from place and significand -/
theorem fz_bits {q K : Nat} (hK : K ≤ 9007199254740992) (h : q = 0 ∨ 4503599627370496 ≤ K) (hq : q ≤ 2045) : fz (q * 4503599627370496 + K) = K * 2 ^ q := by
  have hm : fmag (q * 4503599627370496 + K) = q * 4503599627370496 + K := Nat.mod_eq_of_lt (by omega)
  unfold fz sig fsh ffld
  rw [hm]
  by_cases h1 : K < 4503599627370496
  · obtain rfl : q = 0 := by omega
    rw [if_pos (by omega), show (0 * 4503599627370496 + K) / 4503599627370496 - 1 = 0 by omega]
    simp
  · by_cases h2 : K = 9007199254740992
    · subst h2
      rw [if_neg (by omega), show (q * 4503599627370496 + 9007199254740992) % 4503599627370496 + 4503599627370496 = 4503599627370496 by omega, show (q * 4503599627370496 + 9007199254740992) / 4503599627370496 - 1 = q + 1 by omega, Nat.pow_succ]
      omega
    · rw [if_neg (by omega), show (q * 4503599627370496 + K) % 4503599627370496 + 4503599627370496 = K by omega, show (q * 4503599627370496 + K) / 4503599627370496 - 1 = q by omega]

/-- the next float's value: one unit more in the last place -/
theorem fz_succ {m : Nat} (h : m < 9218868437227405312) : fz (m + 1) = fz m + 2 ^ (m / 4503599627370496 - 1) := by
  obtain ⟨q, K, hq, hK, hn, hm⟩ : ∃ q K, q ≤ 2045 ∧ K < 9007199254740992 ∧ (q = 0 ∨ 4503599627370496 ≤ K) ∧ m = q * 4503599627370496 + K := by
    by_cases h1 : m < 4503599627370496
    · exact ⟨0, m, by omega, by omega, by omega, by omega⟩
    · exact ⟨m / 4503599627370496 - 1, m % 4503599627370496 + 4503599627370496, by omega, by omega, by omega, by omega⟩
  have e1 : m / 4503599627370496 - 1 = q := by omega
  rw [e1, hm, Nat.add_assoc, fz_bits (by omega) (by omega) hq, fz_bits (by omega) hn hq, Nat.add_mul, Nat.one_mul]

theorem fz_lt_succ {m : Nat} (h : m < 9218868437227405312) : fz m < fz (m + 1) := by
  rw [fz_succ h]
  exact Nat.lt_add_of_pos_right (Nat.pow_pos (by omega))
theorem fz_mono {m n : Nat} (h : m ≤ n) (hn : n ≤ 9218868437227405312) : fz m ≤ fz n := by
  induction n with
  | zero => rw [show m = 0 by omega]; exact Nat.le_refl _
  | succ n ih =>
    rcases Nat.lt_or_ge n m with h1 | h1
    · rw [show m = n + 1 by omega]; exact Nat.le_refl _
    · exact Nat.le_trans (ih h1 (by omega)) (Nat.le_of_lt (fz_lt_succ (by omega)))
theorem fz_lt {m n : Nat} (h : m < n) (hn : n ≤ 9218868437227405312) : fz m < fz n := Nat.lt_of_lt_of_le (fz_lt_succ (by omega)) (fz_mono (show m + 1 ≤ n from h) hn)
theorem fz_zero0 : fz 0 = 0 := by decide

/-- the value of N 2^e in units of 2^-T -/
def vu (N : Nat) (e : Int) (T : Nat) : Nat := N * 2 ^ (e + T).toNat
/-- .. of a float -/
def fu (m T : Nat) : Nat := fz m * 2 ^ (T - 1074)

theorem fu_lt {m n T : Nat} (h : m < n) (hn : n ≤ 9218868437227405312) : fu m T < fu n T := Nat.mul_lt_mul_of_pos_right (fz_lt h hn) (Nat.pow_pos (by omega))
theorem fu_le {m n T : Nat} (h : m ≤ n) (hn : n ≤ 9218868437227405312) : fu m T ≤ fu n T := Nat.mul_le_mul_right _ (fz_mono h hn)
theorem fu_lt_iff {m n T : Nat} (hm : m ≤ 9218868437227405312) (hn : n ≤ 9218868437227405312) : fu m T < fu n T ↔ m < n := by
  constructor
  · intro h
    rcases Nat.lt_or_ge m n with h1 | h1
    · exact h1
    · exact absurd (fu_le (T := T) h1 hm) (by omega)
  · intro h; exact fu_lt h hn
theorem fu_zero (T : Nat) : fu 0 T = 0 := by unfold fu; rw [fz_zero0, Nat.zero_mul]

/-- is the magnitude raised: b says so to nearest -/
def fraise (neg : Bool) (mode : Int) (b : Bool) : Bool := if mode = 1 then neg else if mode = 2 then !neg else if mode = 3 then false else b

/-- what rounding a magnitude does: lo is the greatest float that is not greater -/
structure Rd (N : Nat) (e : Int) (T lo : Nat) (b : Bool) : Prop where
  lt : lo < 9218868437227405312
  val : ∀ neg mode, fla neg N e false mode = lo + (if fraise neg mode b then 1 else 0)
  above : fu lo T < vu N e T
  below : lo + 1 = 9218868437227405312 ∧ fu 9218868437227405312 T ≤ vu N e T ∨ vu N e T < fu (lo + 1) T
  near : b = true ∧ fu lo T + fu (lo + 1) T < 2 * vu N e T ∨ b = false ∧ 2 * vu N e T < fu lo T + fu (lo + 1) T ∨ 2 * vu N e T = fu lo T + fu (lo + 1) T ∧ b = decide (lo % 2 = 1)
def Rx (N : Nat) (e : Int) (T lo : Nat) : Prop := lo < 9218868437227405312 ∧ (∀ neg mode, fla neg N e false mode = lo) ∧ fu lo T = vu N e T

def low46 : Nat := 2046
theorem fz_inf : fz 9218868437227405312 = 2 ^ 52 * 2 ^ low46 := by
  have h1 : sig 9218868437227405312 = 2 ^ 52 := by decide
  have h2 : fsh 9218868437227405312 = low46 := by decide
  unfold fz
  rw [h1, h2]

theorem fla_spec {N : Nat} (h0 : N ≠ 0) (e : Int) {T : Nat} (hT : 1074 ≤ T) (he : -(T : Int) ≤ e) : (∃ lo, Rx N e T lo) ∨ ∃ lo b, Rd N e T lo b := by
  obtain ⟨p1, p2, p3⟩ := fplace_ge N e
  have l1 := Nat.log2_self_le h0
  have l2 := @Nat.lt_log2_self N
  by_cases hg : e + (Nat.log2 N : Int) > 1023
  · -- too great
    right
    have hx : fu 9218868437227405312 T ≤ vu N e T := by
      unfold fu vu
      rw [fz_inf, ← Nat.pow_add, ← Nat.pow_add]
      have h2 : 2 ^ (Nat.log2 N) * 2 ^ (e + T).toNat ≤ N * 2 ^ (e + T).toNat := Nat.mul_le_mul_right _ l1
      rw [← Nat.pow_add] at h2
      exact Nat.le_trans (Nat.pow_le_pow_right (by omega) (by unfold low46; omega)) h2
    have hy : fu 9218868437227405311 T < fu 9218868437227405312 T := fu_lt (by omega) (Nat.le_refl _)
    refine ⟨9218868437227405311, true, by omega, ?_, by omega, Or.inl ⟨rfl, hx⟩, Or.inl ⟨rfl, ?_⟩⟩
    · intro neg mode
      unfold fla fover fraise
      rw [if_pos hg]
      by_cases m1 : mode = 1
      · rw [if_pos m1]; cases neg <;> rfl
      · rw [if_neg m1]
        by_cases m2 : mode = 2
        · rw [if_pos m2]; cases neg <;> rfl
        · rw [if_neg m2]
          by_cases m3 : mode = 3
          · rw [if_pos m3]; rfl
          · rw [if_neg m3]; rfl
    · show fu 9218868437227405311 T + fu (9218868437227405311 + 1) T < 2 * vu N e T
      rw [show 9218868437227405311 + 1 = 9218868437227405312 from rfl]
      omega
  · obtain ⟨q, hq⟩ : ∃ q : Nat, (q : Int) = fplace N e + 1074 := ⟨(fplace N e + 1074).toNat, by omega⟩
    have hq1 : q ≤ 2045 := by omega
    have hqn : (fplace N e + 1074).toNat = q := by omega
    by_cases hp : fplace N e ≤ e
    · -- exact
      left
      obtain ⟨i, hi⟩ : ∃ i : Nat, (i : Int) = e - fplace N e := ⟨(e - fplace N e).toNat, by omega⟩
      have hin : (e - fplace N e).toNat = i := by omega
      have hKl : N * 2 ^ i < 9007199254740992 := by
        have h2 : N * 2 ^ i < 2 ^ (Nat.log2 N + 1) * 2 ^ i := Nat.mul_lt_mul_of_pos_right l2 (Nat.pow_pos (by omega))
        rw [← Nat.pow_add] at h2
        exact Nat.lt_of_lt_of_le h2 (by rw [show 9007199254740992 = 2 ^ 53 from rfl]; exact Nat.pow_le_pow_right (by omega) (by omega))
      have hKn : q = 0 ∨ 4503599627370496 ≤ N * 2 ^ i := by
        rcases p3 with p3 | p3
        · left; omega
        · right
          have h2 : 2 ^ (Nat.log2 N) * 2 ^ i ≤ N * 2 ^ i := Nat.mul_le_mul_right _ l1
          rw [← Nat.pow_add, show Nat.log2 N + i = 52 by omega] at h2
          exact h2
      refine ⟨q * 4503599627370496 + N * 2 ^ i, by omega, ?_, ?_⟩
      · intro neg mode
        unfold fla
        rw [if_neg hg, if_pos hp, hqn, hin]
      · unfold fu vu
        rw [fz_bits (by omega) hKn hq1, Nat.mul_assoc, Nat.mul_assoc, ← Nat.pow_add, ← Nat.pow_add, show i + (q + (T - 1074)) = (e + T).toNat by omega]
    · obtain ⟨D, hD⟩ : ∃ D : Nat, (D : Int) = fplace N e - e := ⟨(fplace N e - e).toNat, by omega⟩
      have hDn : (fplace N e - e).toNat = D := by omega
      have hD0 : D ≠ 0 := by omega
      have hpD : 0 < 2 ^ D := Nat.pow_pos (by omega)
      have hdm := Nat.div_add_mod N (2 ^ D)
      have hml := Nat.mod_lt N hpD
      have hKl : N / 2 ^ D < 9007199254740992 := by
        rw [Nat.div_lt_iff_lt_mul hpD, show 9007199254740992 = 2 ^ 53 from rfl, ← Nat.pow_add]
        exact Nat.lt_of_lt_of_le l2 (Nat.pow_le_pow_right (by omega) (by omega))
      have hKn : q = 0 ∨ 4503599627370496 ≤ N / 2 ^ D := by
        rcases p3 with p3 | p3
        · left; omega
        · right
          rw [Nat.le_div_iff_mul_le hpD, show 4503599627370496 = 2 ^ 52 from rfl, ← Nat.pow_add, show 52 + D = Nat.log2 N by omega]
          exact l1
      obtain ⟨c, hc⟩ : ∃ c : Nat, c = (e + T).toNat := ⟨_, rfl⟩
      have hvu : vu N e T = (N / 2 ^ D * 2 ^ D + N % 2 ^ D) * 2 ^ c := by unfold vu; rw [← hc]; congr 1; rw [Nat.mul_comm]; omega
      have hlo : fu (q * 4503599627370496 + N / 2 ^ D) T = N / 2 ^ D * 2 ^ D * 2 ^ c := by
        unfold fu
        rw [fz_bits (by omega) hKn hq1, Nat.mul_assoc, Nat.mul_assoc, ← Nat.pow_add, ← Nat.pow_add, show q + (T - 1074) = D + c by omega]
      have hhi : fu (q * 4503599627370496 + N / 2 ^ D + 1) T = (N / 2 ^ D + 1) * 2 ^ D * 2 ^ c := by
        unfold fu
        rw [Nat.add_assoc, fz_bits (by omega) (by omega) hq1, Nat.mul_assoc, Nat.mul_assoc, ← Nat.pow_add, ← Nat.pow_add, show q + (T - 1074) = D + c by omega]
      have hv : ∀ neg mode, fla neg N e false mode = q * 4503599627370496 + N / 2 ^ D + (if fup neg mode (N / 2 ^ D) (N % 2 ^ D) (2 ^ D) false then 1 else 0) := by
        intro neg mode
        unfold fla
        rw [if_neg hg, if_neg hp, hqn, hDn]
      have hKo : decide (N / 2 ^ D % 2 = 1) = decide ((q * 4503599627370496 + N / 2 ^ D) % 2 = 1) := decide_eq_decide.2 (by omega)
      generalize N / 2 ^ D = K at *
      generalize N % 2 ^ D = r at *
      have hpc : 0 < 2 ^ c := Nat.pow_pos (by omega)
      have hlt : q * 4503599627370496 + K < 9218868437227405312 := by omega
      by_cases hr : r = 0
      · left
        subst hr
        refine ⟨q * 4503599627370496 + K, hlt, ?_, ?_⟩
        · intro neg mode
          rw [hv]
          have e3 : fup neg mode K 0 (2 ^ D) false = false := by
            unfold fup
            simp <;> omega
          rw [e3]
          simp only [Bool.false_eq_true, if_false, Nat.add_zero]
        · rw [hlo, hvu]; rfl
      · right
        generalize 2 ^ D = P at *
        generalize 2 ^ c = C at *
        have q1 : (K * P + r) * C = K * P * C + r * C := Nat.add_mul _ _ _
        have q2 : (K + 1) * P * C = K * P * C + P * C := by rw [Nat.add_mul K 1 P, Nat.one_mul, Nat.add_mul]
        have q3 : 0 < r * C := Nat.mul_pos (by omega) hpc
        have q4 : r * C < P * C := Nat.mul_lt_mul_of_pos_right hml hpc
        have q5 : 2 * (r * C) = 2 * r * C := by rw [Nat.mul_assoc]
        refine ⟨q * 4503599627370496 + K, decide (P < 2 * r) || decide (P = 2 * r) && decide (K % 2 = 1), hlt, ?_, ?_, ?_, ?_⟩
        · intro neg mode
          rw [hv]
          unfold fup fraise
          simp only [decide_eq_true hr, Bool.or_false, Bool.and_true, Bool.false_or]
        · rw [hlo, hvu]; omega
        · right; rw [hhi, hvu]; omega
        · rw [hlo, hhi, hvu, q1, q2]
          rcases Nat.lt_trichotomy P (2 * r) with h3 | h3 | h3
          · left
            have := Nat.mul_lt_mul_of_pos_right h3 hpc
            exact ⟨by rw [decide_eq_true h3]; rfl, by omega⟩
          · right; right
            have : P * C = 2 * r * C := by rw [h3]
            exact ⟨by omega, by rw [decide_eq_false (show ¬ P < 2 * r by omega), decide_eq_true h3, Bool.false_or, Bool.true_and]; exact hKo⟩
          · right; left
            have := Nat.mul_lt_mul_of_pos_right h3 hpc
            exact ⟨by rw [decide_eq_false (show ¬ P < 2 * r by omega), decide_eq_false (show ¬ P = 2 * r by omega)]; rfl, by omega⟩
end Go.Proofs.YtapcecjbmcoliaaGreatDoor
