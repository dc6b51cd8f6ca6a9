/- Rounding to a binary64 number, as plain facts: a natural number times a power of two, with a tail or without. No program stands here. -/
import Derived.Test.YtjohpdobnedilaaGreatDoorGa
namespace Go.Proofs.YtjohpdobnedilaaGreatDoor

/-- is an absolute value rounded away from zero: r of h follows what is kept, and perhaps a tail -/
def fup (neg : Bool) (mode : Int) (kept r h : Nat) (t : Bool) : Bool :=
  if mode = 1 then neg && (decide (r ≠ 0) || t) else if mode = 2 then !neg && (decide (r ≠ 0) || t) else if mode = 3 then false
  else decide (h < 2 * r) || decide (h = 2 * r) && (t || decide (kept % 2 = 1))

/-- is a number that is too great rounded to the infinity -/
def fover (neg : Bool) (mode : Int) : Bool := if mode = 1 then neg else if mode = 2 then !neg else if mode = 3 then false else true

/-- the exponent of the last place that is kept -/
def fplace (N : Nat) (e : Int) : Int := max (e + (Nat.log2 N : Int) - 52) (-1074)

/-- N 2^e, perhaps with a tail, rounded: the bits without the sign -/
def fla (neg : Bool) (N : Nat) (e : Int) (t : Bool) (mode : Int) : Nat :=
  if e + (Nat.log2 N : Int) > 1023 then (if fover neg mode then 9218868437227405312 else 9218868437227405311)
  else if fplace N e ≤ e then (fplace N e + 1074).toNat * 4503599627370496 + N * 2 ^ (e - fplace N e).toNat
  else (fplace N e + 1074).toNat * 4503599627370496 + N / 2 ^ (fplace N e - e).toNat +
    (if fup neg mode (N / 2 ^ (fplace N e - e).toNat) (N % 2 ^ (fplace N e - e).toNat) (2 ^ (fplace N e - e).toNat) t then 1 else 0)

/-- .. and the bits with the sign -/
def flr (neg : Bool) (N : Nat) (e : Int) (t : Bool) (mode : Int) : Nat := (if neg then 9223372036854775808 else 0) + fla neg N e t mode

theorem log2_of {a k : Nat} (h0 : 2 ^ k ≤ a) (h1 : a < 2 ^ (k + 1)) : Nat.log2 a = k := by
  have ha : a ≠ 0 := by have := Nat.pow_pos (n := k) (show 0 < 2 by omega); omega
  exact (Nat.log2_eq_iff ha).2 ⟨h0, h1⟩
theorem log2_shift {a : Nat} (h : a ≠ 0) (k : Nat) : Nat.log2 (a * 2 ^ k) = Nat.log2 a + k := by
  have h1 := Nat.log2_self_le h
  have h2 := @Nat.lt_log2_self a
  have hp : 0 < 2 ^ k := Nat.pow_pos (by omega)
  apply log2_of
  · rw [Nat.pow_add]; exact Nat.mul_le_mul_right _ h1
  · rw [show Nat.log2 a + k + 1 = Nat.log2 a + 1 + k by omega, Nat.pow_add]; exact Nat.mul_lt_mul_of_pos_right h2 hp
theorem log2_down {a k : Nat} (h : 2 ^ k ≤ a) : Nat.log2 (a / 2 ^ k) = Nat.log2 a - k ∧ k ≤ Nat.log2 a := by
  have hp : 0 < 2 ^ k := Nat.pow_pos (by omega)
  have ha : a ≠ 0 := by omega
  have h1 := Nat.log2_self_le ha
  have h2 := @Nat.lt_log2_self a
  have hk : k ≤ Nat.log2 a := by
    rcases Nat.lt_or_ge (Nat.log2 a) k with h3 | h3
    · have := Nat.pow_le_pow_right (show 0 < 2 by omega) (show Nat.log2 a + 1 ≤ k by omega)
      omega
    · exact h3
  refine ⟨?_, hk⟩
  obtain ⟨j, hj⟩ : ∃ j, Nat.log2 a = j + k := ⟨Nat.log2 a - k, by omega⟩
  rw [hj] at h1 h2 ⊢
  rw [show j + k - k = j by omega]
  apply log2_of
  · rw [Nat.le_div_iff_mul_le hp, ← Nat.pow_add]; exact h1
  · rw [Nat.div_lt_iff_lt_mul hp, ← Nat.pow_add, show j + 1 + k = j + k + 1 by omega]; exact h2

theorem mod_mul_pow (N D k : Nat) : N * 2 ^ k % 2 ^ (D + k) = N % 2 ^ D * 2 ^ k := by
  rw [Nat.pow_add, Nat.mul_mod_mul_right]
theorem div_mul_pow (N D k : Nat) : N * 2 ^ k / 2 ^ (D + k) = N / 2 ^ D := by
  rw [Nat.pow_add, Nat.mul_div_mul_right _ _ (Nat.pow_pos (by omega))]

theorem fup_scale (neg : Bool) (mode : Int) (kept r h c : Nat) (t : Bool) (hc : 0 < c) : fup neg mode kept (r * c) (h * c) t = fup neg mode kept r h t := by
  have e1 : (r * c ≠ 0) = (r ≠ 0) := by
    apply propext
    constructor
    · intro h1 h2; exact h1 (by rw [h2, Nat.zero_mul])
    · intro h1 h2; rcases Nat.mul_eq_zero.1 h2 with h3 | h3 <;> omega
  have e2 : (h * c < 2 * (r * c)) = (h < 2 * r) := by
    apply propext
    rw [← Nat.mul_assoc]
    exact Nat.mul_lt_mul_right hc
  have e3 : (h * c = 2 * (r * c)) = (h = 2 * r) := by
    apply propext
    rw [← Nat.mul_assoc]
    exact Nat.mul_right_cancel_iff hc
  unfold fup
  simp only [e1, e2, e3]

theorem fplace_shift {N : Nat} (h : N ≠ 0) (e : Int) (k : Nat) : fplace (N * 2 ^ k) (e - k) = fplace N e := by
  unfold fplace
  rw [log2_shift h]
  congr 1
  push_cast
  omega

/-- the same number in smaller units -/
theorem fla_shift (neg : Bool) {N : Nat} (h : N ≠ 0) (e : Int) (t : Bool) (mode : Int) (k : Nat) (ht : t = true → 2 ^ 53 ≤ N) : fla neg (N * 2 ^ k) (e - k) t mode = fla neg N e t mode := by
  have e0 : e - (k : Int) + (Nat.log2 (N * 2 ^ k) : Int) = e + (Nat.log2 N : Int) := by rw [log2_shift h]; push_cast; omega
  unfold fla
  rw [e0, fplace_shift h]
  have hpl : e + (Nat.log2 N : Int) - 52 ≤ fplace N e := by unfold fplace; omega
  generalize fplace N e = P at *
  by_cases h1 : e + (Nat.log2 N : Int) > 1023
  · rw [if_pos h1, if_pos h1]
  · rw [if_neg h1, if_neg h1]
    by_cases h2 : P ≤ e
    · rw [if_pos h2]
      have htf : t = false := by
        cases t with
        | false => rfl
        | true =>
          exfalso
          have h3 := ht rfl
          have h4 := @Nat.lt_log2_self N
          have h5 : 2 ^ 53 < 2 ^ (Nat.log2 N + 1) := by omega
          have := (Nat.pow_lt_pow_iff_right (show 1 < 2 by omega)).1 h5
          omega
      subst htf
      by_cases h3 : P ≤ e - k
      · rw [if_pos h3]
        rw [show (e - P).toNat = k + (e - k - P).toNat by omega, Nat.pow_add, Nat.mul_assoc]
      · rw [if_neg h3]
        obtain ⟨j, hj⟩ : ∃ j : Nat, (j : Int) = P - (e - k) := ⟨(P - (e - k)).toNat, by omega⟩
        have e1 : (P - (e - k)).toNat = j := by omega
        obtain ⟨i, hi⟩ : ∃ i : Nat, k = i + j := ⟨k - j, by omega⟩
        have e2 : (e - P).toNat = i := by omega
        rw [e1, e2, hi, Nat.pow_add, ← Nat.mul_assoc, Nat.mul_div_cancel _ (Nat.pow_pos (by omega)), Nat.mul_mod_left]
        have e3 : fup neg mode (N * 2 ^ i) 0 (2 ^ j) false = false := by
          have := Nat.pow_pos (n := j) (show 0 < 2 by omega)
          unfold fup
          simp <;> omega
        rw [e3]
        simp
    · rw [if_neg h2, if_neg (by omega)]
      have e1 : (P - (e - k)).toNat = (P - e).toNat + k := by omega
      rw [e1, div_mul_pow, mod_mul_pow, Nat.pow_add, fup_scale _ _ _ _ _ _ _ (Nat.pow_pos (by omega))]

/-- digits that are cut off become the tail -/
theorem fla_tail (neg : Bool) {N : Nat} (e : Int) (t : Bool) (mode : Int) (j : Nat) (hN : 2 ^ 53 ≤ N / 2 ^ j) :
    fla neg (N / 2 ^ j) (e + j) (t || decide (N % 2 ^ j ≠ 0)) mode = fla neg N e t mode := by
  have hp : 0 < 2 ^ j := Nat.pow_pos (by omega)
  have h0 : 2 ^ j ≤ N := by
    rcases Nat.lt_or_ge N (2 ^ j) with h | h
    · rw [Nat.div_eq_of_lt h] at hN
      exact absurd hN (by decide)
    · exact h
  obtain ⟨h1, h2⟩ := log2_down h0
  have e0 : e + (j : Int) + (Nat.log2 (N / 2 ^ j) : Int) = e + (Nat.log2 N : Int) := by rw [h1]; omega
  have e1 : fplace (N / 2 ^ j) (e + j) = fplace N e := by unfold fplace; rw [e0]
  have h53 : 53 ≤ Nat.log2 (N / 2 ^ j) := by
    have h4 := @Nat.lt_log2_self (N / 2 ^ j)
    have h5 : 2 ^ 53 < 2 ^ (Nat.log2 (N / 2 ^ j) + 1) := by omega
    have := (Nat.pow_lt_pow_iff_right (show 1 < 2 by omega)).1 h5
    omega
  have hpl : e + (Nat.log2 N : Int) - 52 ≤ fplace N e := by unfold fplace; omega
  unfold fla
  rw [e0, e1]
  generalize fplace N e = P at *
  by_cases h3 : e + (Nat.log2 N : Int) > 1023
  · rw [if_pos h3, if_pos h3]
  · rw [if_neg h3, if_neg h3, if_neg (show ¬ P ≤ e + (j : Int) by omega), if_neg (show ¬ P ≤ e by omega)]
    obtain ⟨D, hD⟩ : ∃ D : Nat, (P - (e + j)).toNat = D + 1 := ⟨(P - (e + j)).toNat - 1, by omega⟩
    have hD2 : (P - e).toNat = j + (D + 1) := by omega
    rw [hD, hD2, Nat.div_div_eq_div_mul, ← Nat.pow_add]
    congr 1
    have hm : N % 2 ^ (j + (D + 1)) = 2 ^ j * (N / 2 ^ j % 2 ^ (D + 1)) + N % 2 ^ j := by
      rw [Nat.pow_add, Nat.mod_mul]; omega
    have hr : N % 2 ^ j < 2 ^ j := Nat.mod_lt _ hp
    generalize N / 2 ^ (j + (D + 1)) = K
    rw [hm]
    generalize N / 2 ^ j % 2 ^ (D + 1) = r
    generalize N % 2 ^ j = s at *
    have e5 : fup neg mode K r (2 ^ (D + 1)) (t || decide (s ≠ 0)) = fup neg mode K (2 ^ j * r + s) (2 ^ (j + (D + 1))) t := by
      have a1 : (2 ^ j * r + s ≠ 0) ↔ (r ≠ 0 ∨ s ≠ 0) := by
        constructor
        · intro h
          rcases Nat.eq_zero_or_pos r with h4 | h4
          · subst h4; right; simpa using h
          · left; omega
        · rintro (h | h)
          · have := Nat.mul_pos hp (Nat.pos_of_ne_zero h); omega
          · omega
      have hH : 2 ^ (j + (D + 1)) = 2 ^ j * (2 * 2 ^ D) := by rw [Nat.pow_add, Nat.pow_succ, Nat.mul_comm (2 ^ D) 2]
      have hh : 2 ^ (D + 1) = 2 * 2 ^ D := by rw [Nat.pow_succ, Nat.mul_comm]
      rw [hH, hh]
      generalize 2 ^ D = H
      have m1 : 2 ^ j * (2 * H) = 2 * (2 ^ j * H) := by rw [← Nat.mul_assoc, Nat.mul_comm (2 ^ j) 2, Nat.mul_assoc]
      rw [m1]
      -- three cases: below the middle, in it, above it
      rcases Nat.lt_trichotomy r H with h4 | h4 | h4
      · have h5 : 2 ^ j * r + 2 ^ j ≤ 2 ^ j * H := by
          have := Nat.mul_le_mul_left (2 ^ j) (show r + 1 ≤ H from h4)
          rwa [Nat.mul_add, Nat.mul_one] at this
        have b1 : ¬ 2 * H < 2 * r := by omega
        have b2 : ¬ 2 * H = 2 * r := by omega
        have b3 : ¬ 2 * (2 ^ j * H) < 2 * (2 ^ j * r + s) := by omega
        have b4 : ¬ 2 * (2 ^ j * H) = 2 * (2 ^ j * r + s) := by omega
        unfold fup
        simp only [b1, b2, b3, b4, decide_false, Bool.false_and, Bool.or_false]
        have : (decide (r ≠ 0) || (t || decide (s ≠ 0))) = (decide (2 ^ j * r + s ≠ 0) || t) := by
          rw [decide_eq_decide.2 a1, Bool.decide_or]
          cases decide (r ≠ 0) <;> cases t <;> cases decide (s ≠ 0) <;> rfl
        rw [this]
      · subst h4
        have c1 : ¬ 2 * r < 2 * r := by omega
        have c2 : (2 * (2 ^ j * r) < 2 * (2 ^ j * r + s)) = (s ≠ 0) := by apply propext; omega
        have c3 : (2 * (2 ^ j * r) = 2 * (2 ^ j * r + s)) = (s = 0) := by apply propext; omega
        unfold fup
        simp only [c1, c2, c3, decide_false, decide_true, Bool.true_and, Bool.false_or]
        have : (decide (r ≠ 0) || (t || decide (s ≠ 0))) = (decide (2 ^ j * r + s ≠ 0) || t) := by
          rw [decide_eq_decide.2 a1, Bool.decide_or]
          cases decide (r ≠ 0) <;> cases t <;> cases decide (s ≠ 0) <;> rfl
        rw [this]
        by_cases hs : s = 0
        · subst hs; simp
        · simp [hs]
      · have h5 : 2 ^ j * H + 2 ^ j ≤ 2 ^ j * r := by
          have := Nat.mul_le_mul_left (2 ^ j) (show H + 1 ≤ r from h4)
          rwa [Nat.mul_add, Nat.mul_one] at this
        have b1 : 2 * H < 2 * r := by omega
        have b3 : 2 * (2 ^ j * H) < 2 * (2 ^ j * r + s) := by omega
        unfold fup
        simp only [b1, b3, decide_true, Bool.true_or]
        have : (decide (r ≠ 0) || (t || decide (s ≠ 0))) = (decide (2 ^ j * r + s ≠ 0) || t) := by
          rw [decide_eq_decide.2 a1, Bool.decide_or]
          cases decide (r ≠ 0) <;> cases t <;> cases decide (s ≠ 0) <;> rfl
        rw [this]
    rw [e5]
end Go.Proofs.YtjohpdobnedilaaGreatDoor

/- Floats as bit patterns, as plain facts: their parts, their exact values, and rounding a sum. No program stands here. -/
namespace Go.Proofs.YtjohpdobnedilaaGreatDoor

def fmag (f : Nat) : Nat := f % 9223372036854775808
def fneg (f : Nat) : Bool := decide (9223372036854775808 ≤ f)
/-- the zero with a sign -/
def sgz (b : Bool) : Nat := if b then 9223372036854775808 else 0
def ffld (f : Nat) : Nat := fmag f / 4503599627370496
/-- the significand -/
def sig (f : Nat) : Nat := if ffld f = 0 then fmag f else fmag f % 4503599627370496 + 4503599627370496
/-- the exponent of the last place, above the least one -/
def fsh (f : Nat) : Nat := ffld f - 1
/-- the absolute value in units of the least float -/
def fz (f : Nat) : Nat := sig f * 2 ^ fsh f
/-- .. and with the sign -/
def fzs (f : Nat) : Int := if fneg f then -(fz f : Int) else (fz f : Int)

theorem fmag_lt (f : Nat) : fmag f < 9223372036854775808 := Nat.mod_lt _ (by omega)
theorem f_parts {f : Nat} (h : f < 18446744073709551616) : f = sgz (fneg f) + fmag f := by
  unfold sgz fneg fmag
  by_cases h1 : 9223372036854775808 ≤ f
  · rw [if_pos (by simpa using h1)]; omega
  · rw [if_neg (by simpa using h1)]; omega
theorem sgz_le (b : Bool) : sgz b ≤ 9223372036854775808 := by unfold sgz; split <;> omega
theorem sig_lt (f : Nat) : sig f < 9007199254740992 := by
  unfold sig ffld
  have := fmag_lt f
  split <;> omega
theorem sig_zero (f : Nat) : sig f = 0 ↔ fmag f = 0 := by
  unfold sig ffld
  split <;> omega
theorem fsh_lt (f : Nat) : fsh f < 2048 := by unfold fsh ffld; have := fmag_lt f; omega
theorem fz_zero (f : Nat) : fz f = 0 ↔ fmag f = 0 := by
  unfold fz
  rw [← sig_zero]
  constructor
  · intro h
    rcases Nat.mul_eq_zero.1 h with h | h
    · exact h
    · exact absurd h (Nat.pos_iff_ne_zero.1 (Nat.pow_pos (by omega)))
  · intro h; rw [h, Nat.zero_mul]

/-- rounding is the same for the same number -/
theorem fla_eq (neg : Bool) {N M : Nat} {e f : Int} {a b : Nat} (mode : Int) (h0 : N ≠ 0) (h : N * 2 ^ a = M * 2 ^ b) (he : e - a = f - b) : fla neg N e false mode = fla neg M f false mode := by
  have hM : M ≠ 0 := by
    rintro rfl
    rw [Nat.zero_mul] at h
    rcases Nat.mul_eq_zero.1 h with h1 | h1
    · exact h0 h1
    · exact absurd h1 (Nat.pos_iff_ne_zero.1 (Nat.pow_pos (by omega)))
  rw [← fla_shift neg h0 e false mode a (by simp), ← fla_shift neg hM f false mode b (by simp), h, he]

/-- a float is its own rounding -/
theorem fla_self (neg : Bool) {f : Nat} (h0 : fmag f ≠ 0) (h1 : fmag f < 9218868437227405312) (mode : Int) : fla neg (sig f) (-1074 + (fsh f : Int)) false mode = fmag f := by
  have hs : sig f ≠ 0 := fun h => h0 ((sig_zero f).1 h)
  have hl : (Nat.log2 (sig f) : Int) ≤ 52 ∧ ((Nat.log2 (sig f) : Int) = 52 ∨ fsh f = 0) := by
    have h3 := @Nat.log2_self_le (sig f) hs
    have h4 := sig_lt f
    have h5 : Nat.log2 (sig f) < 53 := (Nat.log2_lt hs).2 (by omega)
    refine ⟨by omega, ?_⟩
    by_cases h6 : ffld f = 0
    · right; unfold fsh; omega
    · left
      have h7 : 2 ^ 52 ≤ sig f := by unfold sig; rw [if_neg h6]; omega
      have := log2_of (k := 52) h7 (by omega)
      omega
  have hp : fplace (sig f) (-1074 + (fsh f : Int)) = -1074 + (fsh f : Int) := by unfold fplace; omega
  have hf : (fsh f : Int) ≤ 2045 := by unfold fsh ffld; omega
  unfold fla
  rw [if_neg (by omega), hp, if_pos (Int.le_refl _), Int.sub_self, show (0 : Int).toNat = 0 from rfl, Nat.pow_zero, Nat.mul_one, show -1074 + (fsh f : Int) + 1074 = (fsh f : Int) by omega, Int.toNat_natCast]
  unfold sig fsh ffld
  split <;> omega

theorem fla_fz (neg : Bool) {f : Nat} (h0 : fmag f ≠ 0) (h1 : fmag f < 9218868437227405312) (mode : Int) : fla neg (fz f) (-1074) false mode = fmag f := by
  rw [← fla_self neg h0 h1 mode]
  refine fla_eq neg (a := 0) (b := fsh f) mode (fun h => h0 ((fz_zero f).1 h)) ?_ (by omega)
  rw [Nat.pow_zero, Nat.mul_one]; rfl

/-- a number with its sign, rounded -/
def rnd (S : Int) (e : Int) (mode : Int) : Nat := flr (decide (S < 0)) S.natAbs e false mode

theorem split_pow {X Y d : Nat} : (X * 2 ^ d + Y) / 2 ^ d = X + Y / 2 ^ d ∧ (X * 2 ^ d + Y) % 2 ^ d = Y % 2 ^ d := by
  have hp : 0 < 2 ^ d := Nat.pow_pos (by omega)
  rw [Nat.add_comm, Nat.add_mul_div_right _ _ hp, Nat.add_mul_mod_self_right]
  exact ⟨Nat.add_comm _ _, rfl⟩

/-- the sum of a greater number X 2^d and a lesser one Y: the last d digits of Y become the tail -/
theorem fla_plus (neg : Bool) {X Y : Nat} {d : Nat} {e : Int} (mode : Int) (hX : 2 ^ 53 ≤ X) :
    fla neg (X + Y / 2 ^ d) (e + d) (decide (Y % 2 ^ d ≠ 0)) mode = fla neg (X * 2 ^ d + Y) e false mode := by
  obtain ⟨h1, h2⟩ := split_pow (X := X) (Y := Y) (d := d)
  have := fla_tail neg (N := X * 2 ^ d + Y) e false mode d (by rw [h1]; exact Nat.le_trans hX (Nat.le_add_right _ _))
  rw [h1, h2, Bool.false_or] at this
  exact this

/-- .. and the difference -/
theorem fla_minus (neg : Bool) {X Y : Nat} {d : Nat} {e : Int} (mode : Int) (hXY : Y < X * 2 ^ d) (ht : Y % 2 ^ d ≠ 0 → 2 ^ 53 ≤ X - Y / 2 ^ d - 1) :
    fla neg (X - Y / 2 ^ d - (if Y % 2 ^ d ≠ 0 then 1 else 0)) (e + d) (decide (Y % 2 ^ d ≠ 0)) mode = fla neg (X * 2 ^ d - Y) e false mode := by
  have hp : 0 < 2 ^ d := Nat.pow_pos (by omega)
  have hdm := Nat.div_add_mod Y (2 ^ d)
  have hml := Nat.mod_lt Y hp
  have hq : Y / 2 ^ d < X := (Nat.div_lt_iff_lt_mul hp).2 hXY
  have key : ∀ D r : Nat, r < 2 ^ d → (D * 2 ^ d + r) / 2 ^ d = D ∧ (D * 2 ^ d + r) % 2 ^ d = r := by
    intro D r hr
    obtain ⟨h1, h2⟩ := split_pow (X := D) (Y := r) (d := d)
    rw [h1, h2, Nat.div_eq_of_lt hr, Nat.mod_eq_of_lt hr]
    exact ⟨rfl, rfl⟩
  have sh : ∀ D : Nat, D ≠ 0 → fla neg D (e + d) false mode = fla neg (D * 2 ^ d) e false mode := fun D h0 =>
    fla_eq neg (a := d) (b := 0) mode h0 (by rw [Nat.pow_zero, Nat.mul_one]) (by omega)
  have tl : ∀ N : Nat, 2 ^ 53 ≤ N / 2 ^ d → fla neg (N / 2 ^ d) (e + d) (false || decide (N % 2 ^ d ≠ 0)) mode = fla neg N e false mode := fun N h => fla_tail neg e false mode d h
  obtain ⟨q, hqq⟩ : ∃ q, Y / 2 ^ d = q := ⟨_, rfl⟩
  obtain ⟨r, hrr⟩ : ∃ r, Y % 2 ^ d = r := ⟨_, rfl⟩
  rw [hqq, hrr] at hdm
  rw [hrr] at hml ht
  rw [hqq] at hq ht
  rw [hqq, hrr]
  obtain ⟨P, hP⟩ : ∃ P, 2 ^ d = P := ⟨_, rfl⟩
  rw [hP] at hp hdm hml hXY key sh tl
  rw [hP]
  clear hqq hrr hP
  obtain ⟨D, hD⟩ : ∃ D, X = q + D + 1 := ⟨X - q - 1, by omega⟩
  have hX2 : X * P = P * q + D * P + P := by rw [hD, Nat.add_mul, Nat.add_mul, Nat.mul_comm q]; omega
  by_cases h : r = 0
  · rw [if_neg (by simpa using h), decide_eq_false (by simpa using h)]
    have e1 : X - q - 0 = D + 1 := by omega
    have e2 : X * P - Y = (D + 1) * P := by rw [Nat.add_mul]; omega
    rw [e1, e2]
    exact sh _ (by omega)
  · have ht := ht h
    rw [if_pos h, decide_eq_true h]
    have e1 : X - q - 1 = D := by omega
    have e2 : X * P - Y = D * P + (P - r) := by omega
    rw [e1] at ht ⊢
    obtain ⟨k1, k2⟩ := key D (P - r) (by omega)
    have := tl (D * P + (P - r)) (by rw [k1]; exact ht)
    rw [k1, k2, Bool.false_or, decide_eq_true (show P - r ≠ 0 by omega)] at this
    rw [e2]
    exact this
end Go.Proofs.YtjohpdobnedilaaGreatDoor

/- Rounding a word with a sticky last bit is rounding the number. No program stands here. -/
namespace Go.Proofs.YtjohpdobnedilaaGreatDoor

/-- the program's test: rest is what follows, as a fraction of 2^64 -/
def upc (neg : Bool) (mode : Int) (kept rest : Nat) : Bool :=
  if mode = 1 then neg && decide (rest ≠ 0) else if mode = 2 then !neg && decide (rest ≠ 0) else if mode = 3 then false
  else decide (9223372036854775808 < rest) || decide (rest = 9223372036854775808) && decide (kept % 2 = 1)

/-- the last bit is set if digits follow -/
def stick (h : Nat) (s : Bool) : Nat := if s then h / 2 * 2 + 1 else h

theorem rest_eq {h d : Nat} (hd : d ≤ 64) : h * 2 ^ (64 - d) % 18446744073709551616 = h % 2 ^ d * 2 ^ (64 - d) := by
  have e : (18446744073709551616 : Nat) = 2 ^ d * 2 ^ (64 - d) := by rw [← Nat.pow_add, show d + (64 - d) = 64 by omega]
  rw [e, Nat.mul_mod_mul_right]

theorem stick_div {h d : Nat} (s : Bool) (hd : 1 ≤ d) : stick h s / 2 ^ d = h / 2 ^ d := by
  unfold stick
  cases s with
  | false => rfl
  | true =>
    obtain ⟨k, rfl⟩ : ∃ k, d = k + 1 := ⟨d - 1, by omega⟩
    rw [if_pos rfl, Nat.pow_succ', ← Nat.div_div_eq_div_mul, ← Nat.div_div_eq_div_mul]
    congr 1
    omega
theorem stick_mod {h d : Nat} (s : Bool) (hd : 1 ≤ d) : stick h s % 2 ^ d = stick (h % 2 ^ d) s := by
  unfold stick
  cases s with
  | false => rfl
  | true =>
    obtain ⟨k, rfl⟩ : ∃ k, d = k + 1 := ⟨d - 1, by omega⟩
    rw [if_pos rfl, if_pos rfl, Nat.pow_succ', Nat.mod_mul, Nat.mod_mul]
    have e1 : (h / 2 * 2 + 1) % 2 = 1 := by omega
    have e2 : (h / 2 * 2 + 1) / 2 = h / 2 := by omega
    have e3 : (h % 2 + 2 * (h / 2 % 2 ^ k)) / 2 = h / 2 % 2 ^ k := by omega
    rw [e1, e2, e3]
    omega

theorem stick_zero {r : Nat} (s : Bool) : stick r s ≠ 0 ↔ r ≠ 0 ∨ s = true := by
  unfold stick
  cases s <;> simp
theorem up_any (r lo M c : Nat) (t s : Bool) (hc : 0 < c) (hM : 0 < M) (hs : (t || decide (lo ≠ 0)) = s) : decide (stick r s * c ≠ 0) = (decide (r * M + lo ≠ 0) || t) := by
  have f1 : (stick r s * c ≠ 0) ↔ stick r s ≠ 0 := by
    constructor
    · intro h1 h2; exact h1 (by rw [h2, Nat.zero_mul])
    · intro h1 h2; rcases Nat.mul_eq_zero.1 h2 with h3 | h3
      · exact h1 h3
      · omega
  have f2 : (r * M + lo ≠ 0) ↔ r ≠ 0 ∨ lo ≠ 0 := by
    constructor
    · intro h1
      by_cases hr : r = 0
      · right; rw [hr, Nat.zero_mul, Nat.zero_add] at h1; exact h1
      · left; exact hr
    · intro h1 h2
      have h3 : r * M = 0 ∧ lo = 0 := by omega
      rcases Nat.mul_eq_zero.1 h3.1 with h4 | h4
      · rcases h1 with h1 | h1
        · exact h1 h4
        · exact h1 h3.2
      · omega
  have d1 : decide (stick r s * c ≠ 0) = decide (r ≠ 0 ∨ s = true) := decide_eq_decide.2 (f1.trans (stick_zero s))
  have d2 : decide (r * M + lo ≠ 0) = decide (r ≠ 0 ∨ lo ≠ 0) := decide_eq_decide.2 f2
  rw [d1, d2]
  subst hs
  cases t <;> simp

theorem up_half (r lo M H q c : Nat) (K t s : Bool) (hc : 0 < c) (hM : 0 < M) (hlo : lo < M) (hs : (t || decide (lo ≠ 0)) = s) (hH : H = 2 * q * c) :
    (decide (H < stick r s * c) || decide (stick r s * c = H) && K) = (decide (4 * q * M < 2 * (r * M + lo)) || decide (4 * q * M = 2 * (r * M + lo)) && (t || K)) := by
  have f2 : (H < stick r s * c) ↔ 2 * q < stick r s := by
    rw [hH]; exact Nat.mul_lt_mul_right hc
  have f3 : (stick r s * c = H) ↔ stick r s = 2 * q := by
    rw [hH]; exact Nat.mul_right_cancel_iff hc
  have d2 : decide (H < stick r s * c) = decide (2 * q < stick r s) := decide_eq_decide.2 f2
  have d3 : decide (stick r s * c = H) = decide (stick r s = 2 * q) := decide_eq_decide.2 f3
  rw [d2, d3]
  clear d2 d3 f2 f3
  have e1 : 4 * q * M = 2 * (2 * q * M) := by rw [← Nat.mul_assoc, ← Nat.mul_assoc]
  rw [e1]
  rcases Nat.lt_trichotomy r (2 * q) with h | h | h
  · have h2 : r * M + M ≤ 2 * q * M := by
      have := Nat.mul_le_mul_right M (show r + 1 ≤ 2 * q from h)
      rwa [Nat.add_mul, Nat.one_mul] at this
    have k1 : ¬ 2 * (2 * q * M) < 2 * (r * M + lo) := by omega
    have k2 : ¬ 2 * (2 * q * M) = 2 * (r * M + lo) := by omega
    have k3 : ¬ 2 * q < stick r s := by unfold stick; split <;> omega
    have k4 : ¬ stick r s = 2 * q := by unfold stick; split <;> omega
    rw [decide_eq_false k1, decide_eq_false k2, decide_eq_false k3, decide_eq_false k4]
    rfl
  · subst h
    have k1 : (2 * (2 * q * M) < 2 * (2 * q * M + lo)) ↔ lo ≠ 0 := by omega
    have k2 : (2 * (2 * q * M) = 2 * (2 * q * M + lo)) ↔ lo = 0 := by omega
    have k3 : (2 * q < stick (2 * q) s) ↔ s = true := by unfold stick; cases s <;> simp; omega
    have k4 : (stick (2 * q) s = 2 * q) ↔ s = false := by unfold stick; cases s <;> simp; omega
    have d1 : decide (2 * (2 * q * M) < 2 * (2 * q * M + lo)) = decide (lo ≠ 0) := decide_eq_decide.2 k1
    have d2 : decide (2 * (2 * q * M) = 2 * (2 * q * M + lo)) = decide (lo = 0) := decide_eq_decide.2 k2
    have d3 : decide (2 * q < stick (2 * q) s) = decide (s = true) := decide_eq_decide.2 k3
    have d4 : decide (stick (2 * q) s = 2 * q) = decide (s = false) := decide_eq_decide.2 k4
    rw [d1, d2, d3, d4]
    clear d1 d2 d3 d4 k1 k2 k3 k4
    subst hs
    rcases Nat.eq_zero_or_pos lo with hl | hl
    · subst hl; cases t <;> simp
    · have hl : lo ≠ 0 := by omega
      cases t <;> simp [hl]
  · have h2 : 2 * q * M + M ≤ r * M := by
      have := Nat.mul_le_mul_right M (show 2 * q + 1 ≤ r from h)
      rwa [Nat.add_mul, Nat.one_mul] at this
    have k1 : 2 * (2 * q * M) < 2 * (r * M + lo) := by omega
    have k3 : 2 * q < stick r s := by unfold stick; split <;> omega
    rw [decide_eq_true k1, decide_eq_true k3]
    rfl

/-- the program's test is the right one -/
theorem upc_fup (neg : Bool) (mode : Int) {h lo d : Nat} (t : Bool) (kept : Nat) (hd : 2 ≤ d) (hd2 : d ≤ 64) (hlo : lo < 18446744073709551616) :
    upc neg mode kept (stick h (t || decide (lo ≠ 0)) * 2 ^ (64 - d) % 18446744073709551616) = fup neg mode kept ((h * 18446744073709551616 + lo) % 2 ^ (d + 64)) (2 ^ (d + 64)) t := by
  rw [rest_eq hd2, stick_mod _ (by omega)]
  have e1 : (h * 18446744073709551616 + lo) % 2 ^ (d + 64) = h % 2 ^ d * 18446744073709551616 + lo := by
    rw [Nat.pow_add, Nat.mul_comm (2 ^ d), show (2 : Nat) ^ 64 = 18446744073709551616 from rfl, Nat.mod_mul]
    rw [show (h * 18446744073709551616 + lo) % 18446744073709551616 = lo by omega, show (h * 18446744073709551616 + lo) / 18446744073709551616 = h by omega]
    rw [Nat.mul_comm, Nat.add_comm]
  rw [e1]
  have hp : 0 < 2 ^ (64 - d) := Nat.pow_pos (by omega)
  obtain ⟨q, hq⟩ : ∃ q : Nat, 2 ^ d = 4 * q := ⟨2 ^ (d - 2), by rw [show (4 : Nat) = 2 ^ 2 from rfl, ← Nat.pow_add, show 2 + (d - 2) = d by omega]⟩
  have e2 : (18446744073709551616 : Nat) = 4 * q * 2 ^ (64 - d) := by rw [← hq, ← Nat.pow_add, show d + (64 - d) = 64 by omega]
  have e3 : (2 : Nat) ^ (d + 64) = 4 * q * 18446744073709551616 := by rw [Nat.pow_add, hq]
  rw [e3]
  generalize h % 2 ^ d = r
  have e4 : (9223372036854775808 : Nat) = 2 * q * 2 ^ (64 - d) := by
    have : 2 * (2 * q * 2 ^ (64 - d)) = 4 * q * 2 ^ (64 - d) := by rw [← Nat.mul_assoc, ← Nat.mul_assoc]
    omega
  generalize 2 ^ (64 - d) = c at *
  obtain ⟨s, hs⟩ : ∃ s, (t || decide (lo ≠ 0)) = s := ⟨_, rfl⟩
  rw [hs]
  have g1 := up_any r lo 18446744073709551616 c t s hp (by decide) hs
  have g2 := up_half r lo 18446744073709551616 9223372036854775808 q c (decide (kept % 2 = 1)) t s hp (by decide) hlo hs e4
  unfold upc fup
  rw [g1, g2]

/-- a normalized number of 128 bits, rounded: the general case -/
theorem fla_main (neg : Bool) {h lo d : Nat} {e : Int} (t : Bool) (mode : Int) (h0 : 9223372036854775808 ≤ h) (h1 : h < 18446744073709551616) (hlo : lo < 18446744073709551616)
    (htop : e + 127 ≤ 1023) (hd : (d : Int) = max (e + 75) (-1074) - e - 64) (hd2 : d ≤ 64) :
    fla neg (h * 18446744073709551616 + lo) e t mode = (max (e + 75) (-1074) + 1074).toNat * 4503599627370496 + stick h (t || decide (lo ≠ 0)) / 2 ^ d +
      (if upc neg mode (stick h (t || decide (lo ≠ 0)) / 2 ^ d) (stick h (t || decide (lo ≠ 0)) * 2 ^ (64 - d) % 18446744073709551616) then 1 else 0) := by
  have hl : Nat.log2 (h * 18446744073709551616 + lo) = 127 := log2_of (by omega) (by omega)
  have hp : fplace (h * 18446744073709551616 + lo) e = max (e + 75) (-1074) := by unfold fplace; rw [hl]; omega
  unfold fla
  rw [hl, hp, if_neg (by omega), if_neg (by omega), show (max (e + 75) (-1074) - e).toNat = d + 64 by omega]
  rw [upc_fup neg mode t _ (by omega) hd2 hlo, stick_div _ (by omega)]
  have e1 : (h * 18446744073709551616 + lo) / 2 ^ (d + 64) = h / 2 ^ d := by
    rw [Nat.pow_add, Nat.mul_comm (2 ^ d), ← Nat.div_div_eq_div_mul, show (2 : Nat) ^ 64 = 18446744073709551616 from rfl, show (h * 18446744073709551616 + lo) / 18446744073709551616 = h by omega]
  rw [e1]

/-- .. a number far below the least float -/
theorem fla_least (neg : Bool) {h lo : Nat} {e : Int} (t : Bool) (mode : Int) (h0 : 9223372036854775808 ≤ h) (h1 : h < 18446744073709551616) (hlo : lo < 18446744073709551616)
    (hd : 64 < max (e + 75) (-1074) - e - 64) :
    fla neg (h * 18446744073709551616 + lo) e t mode = (if upc neg mode 0 1 then 1 else 0) := by
  have hl : Nat.log2 (h * 18446744073709551616 + lo) = 127 := log2_of (by omega) (by omega)
  have hp : fplace (h * 18446744073709551616 + lo) e = -1074 := by unfold fplace; rw [hl]; omega
  unfold fla
  rw [hl, hp, if_neg (by omega), if_neg (by omega)]
  obtain ⟨D, hD⟩ : ∃ D, (-1074 - e).toNat = D + 129 := ⟨(-1074 - e).toNat - 129, by omega⟩
  have hb : h * 18446744073709551616 + lo < 2 ^ 128 := by omega
  have hb2 : 2 * 2 ^ 128 ≤ 2 ^ (D + 129) := by
    rw [Nat.pow_add, show (2 : Nat) ^ 129 = 2 * 2 ^ 128 from rfl]
    exact Nat.le_mul_of_pos_left _ (Nat.pow_pos (by omega))
  rw [hD, Nat.div_eq_of_lt (by omega), Nat.mod_eq_of_lt (by omega)]
  generalize 2 ^ (D + 129) = Q at *
  rw [show (-1074 + 1074 : Int).toNat = 0 by omega, Nat.zero_mul]
  simp only [Nat.zero_add]
  have hh : fup neg mode 0 (h * 18446744073709551616 + lo) Q t = upc neg mode 0 1 := by
    unfold fup upc
    rw [decide_eq_true (show h * 18446744073709551616 + lo ≠ 0 by omega), decide_eq_true (show (1 : Nat) ≠ 0 by omega), decide_eq_false (show ¬ Q < 2 * (h * 18446744073709551616 + lo) by omega), decide_eq_false (show ¬ Q = 2 * (h * 18446744073709551616 + lo) by omega),
      decide_eq_false (show ¬ (9223372036854775808 : Nat) < 1 by omega), decide_eq_false (show ¬ (1 : Nat) = 9223372036854775808 by omega), Bool.true_or]
    rfl
  rw [hh]

/-- .. a number too great -/
theorem fla_great (neg : Bool) {h lo : Nat} {e : Int} (t : Bool) (mode : Int) (h0 : 9223372036854775808 ≤ h) (h1 : h < 18446744073709551616) (hlo : lo < 18446744073709551616)
    (htop : 1023 < e + 127) :
    fla neg (h * 18446744073709551616 + lo) e t mode = 9218868437227405311 + (if upc neg mode 9007199254740991 18437736874454810624 then 1 else 0) := by
  have hl : Nat.log2 (h * 18446744073709551616 + lo) = 127 := log2_of (by omega) (by omega)
  unfold fla
  rw [hl, if_pos (by omega)]
  unfold fover upc
  rw [decide_eq_true (show (18437736874454810624 : Nat) ≠ 0 by omega), decide_eq_true (show (9223372036854775808 : Nat) < 18437736874454810624 by omega)]
  cases neg <;> (repeat' split) <;> simp_all
end Go.Proofs.YtjohpdobnedilaaGreatDoor

/- A rounded sum is the rounding of the exact sum. No program stands here. -/
namespace Go.Proofs.YtjohpdobnedilaaGreatDoor

/-- N 2^e is A 2^m -/
def Num (N : Nat) (e : Int) (A : Nat) (m : Int) : Prop := ∃ a b : Nat, N * 2 ^ a = A * 2 ^ b ∧ e - a = m - b

theorem Num.fla {N A : Nat} {e m : Int} (h : Num N e A m) (h0 : N ≠ 0) (neg : Bool) (mode : Int) : fla neg N e false mode = fla neg A m false mode := by
  obtain ⟨a, b, h1, h2⟩ := h
  exact fla_eq neg mode h0 h1 h2
theorem Num.refl (N : Nat) (e : Int) : Num N e N e := ⟨0, 0, rfl, rfl⟩
theorem Num.shift {N A : Nat} {e m : Int} (h : Num N e A m) (k : Nat) : Num (N * 2 ^ k) (e - k) A m := by
  obtain ⟨a, b, h1, h2⟩ := h
  exact ⟨a, b + k, by rw [Nat.mul_right_comm, h1, Nat.pow_add, Nat.mul_assoc], by push_cast; omega⟩
theorem Num.unit (N : Nat) (k : Nat) {e m : Int} (h : e = m + k) : Num N e (N * 2 ^ k) m := ⟨k, 0, by simp, by push_cast; omega⟩

theorem sum_value {G L A B : Nat} {eG eL m : Int} {d : Nat} (hG : Num G eG A m) (hL : Num L eL B m) (hd : (d : Int) = eG - eL) :
    Num (G * 2 ^ d + L) eL (A + B) m ∧ Num (G * 2 ^ d - L) eL (A - B) m ∧ (G * 2 ^ d = L ↔ A = B) ∧ (L < G * 2 ^ d ↔ B < A) := by
  obtain ⟨a, b, h1, h2⟩ := hG
  obtain ⟨p, q, h3, h4⟩ := hL
  have e1 : G * 2 ^ d * 2 ^ (p + b) = A * 2 ^ (b + q) := by
    rw [Nat.mul_assoc, ← Nat.pow_add, show d + (p + b) = a + q by omega, Nat.pow_add, ← Nat.mul_assoc, h1, Nat.mul_assoc, ← Nat.pow_add]
  have e2 : L * 2 ^ (p + b) = B * 2 ^ (b + q) := by
    rw [Nat.pow_add, ← Nat.mul_assoc, h3, Nat.mul_assoc, ← Nat.pow_add, Nat.add_comm q b]
  have p1 : 0 < 2 ^ (p + b) := Nat.pow_pos (by omega)
  have p2 : 0 < 2 ^ (b + q) := Nat.pow_pos (by omega)
  refine ⟨⟨p + b, b + q, by rw [Nat.add_mul, Nat.add_mul, e1, e2], by push_cast; omega⟩, ⟨p + b, b + q, by rw [Nat.sub_mul, Nat.sub_mul, e1, e2], by push_cast; omega⟩, ?_, ?_⟩
  · rw [← Nat.mul_right_cancel_iff p1, e1, e2, Nat.mul_right_cancel_iff p2]
  · rw [← Nat.mul_lt_mul_right p1, e1, e2, Nat.mul_lt_mul_right p2]

/-- the zero that is the sum of opposite numbers -/
def cancel (mode : Int) : Nat := if mode = 1 then 9223372036854775808 else 0
/-- a sum rounded: a zero by itself -/
def rsum (S : Int) (m : Int) (mode : Int) : Nat := if S = 0 then cancel mode else rnd S m mode
def sgi (s : Bool) (A : Nat) : Int := if s then -(A : Int) else (A : Int)

theorem rnd_sgi (s : Bool) {A : Nat} (h : A ≠ 0) (m : Int) (mode : Int) : rnd (sgi s A) m mode = sgz s + fla s A m false mode := by
  unfold rnd sgi flr sgz
  cases s with
  | true =>
    rw [if_pos rfl, decide_eq_true (show -(A : Int) < 0 by omega), Int.natAbs_neg, Int.natAbs_natCast, if_pos rfl]
  | false =>
    simp only [Bool.false_eq_true, if_false]
    rw [decide_eq_false (show ¬ (A : Int) < 0 by omega), Int.natAbs_natCast]
    simp

/-- the signs are the same -/
theorem rsum_same (s : Bool) {A B : Nat} (h : A ≠ 0) (m mode : Int) : rsum (sgi s A + sgi s B) m mode = sgz s + fla s (A + B) m false mode := by
  have e : sgi s A + sgi s B = sgi s (A + B) := by unfold sgi; cases s <;> simp <;> omega
  unfold rsum
  rw [e, if_neg (by unfold sgi; split <;> omega), rnd_sgi s (by omega)]
/-- .. or not: the greater one's sign -/
theorem rsum_diff (s : Bool) {A B : Nat} (h : B < A) (m mode : Int) : rsum (sgi s A + sgi (!s) B) m mode = sgz s + fla s (A - B) m false mode := by
  have e : sgi s A + sgi (!s) B = sgi s (A - B) := by unfold sgi; cases s <;> simp <;> omega
  unfold rsum
  rw [e, if_neg (by unfold sgi; split <;> omega), rnd_sgi s (by omega)]
theorem rsum_none (s : Bool) (A : Nat) (m mode : Int) : rsum (sgi s A + sgi (!s) A) m mode = cancel mode := by
  unfold rsum
  rw [if_pos (by unfold sgi; cases s <;> simp <;> omega)]

/-- the program's sum: the greater one halved, the lesser one moved down -/
theorem rs_plus (s : Bool) {G L A B : Nat} {eG eL m : Int} {d : Nat} (hG : Num G eG A m) (hL : Num L eL B m) (hd : (d : Int) = eG - eL + 1) (hd0 : 1 ≤ d) (hG1 : 2 ^ 54 ≤ G) (hG2 : G % 2 = 0) (mode : Int) :
    sgz s + fla s (G / 2 + L / 2 ^ d) (eL + d) (decide (L % 2 ^ d ≠ 0)) mode = rsum (sgi s A + sgi s B) m mode := by
  have hd1 : 1 ≤ d := hd0
  obtain ⟨c, rfl⟩ : ∃ c, d = c + 1 := ⟨d - 1, by omega⟩
  obtain ⟨v1, -, -, -⟩ := sum_value hG hL (d := c) (by omega)
  have eg : G / 2 * 2 ^ (c + 1) = G * 2 ^ c := by
    rw [Nat.pow_succ', ← Nat.mul_assoc]; congr 1; omega
  have hA : A ≠ 0 := by
    rintro rfl
    obtain ⟨a, b, h1, _⟩ := hG
    rw [Nat.zero_mul] at h1
    rcases Nat.mul_eq_zero.1 h1 with h2 | h2
    · omega
    · exact absurd h2 (Nat.pos_iff_ne_zero.1 (Nat.pow_pos (by omega)))
  rw [rsum_same s hA, fla_plus s mode (by omega), eg, v1.fla ?_ s mode]
  have := Nat.pow_pos (n := c) (show 0 < 2 by omega)
  have : 0 < G * 2 ^ c := Nat.mul_pos (by omega) this
  omega

/-- .. the program's difference -/
theorem rs_minus (s : Bool) {G L A B : Nat} {eG eL m : Int} {d : Nat} (hG : Num G eG A m) (hL : Num L eL B m) (hd : (d : Int) = eG - eL + 1) (hd0 : 1 ≤ d) (hG1 : 2 ^ 127 ≤ G) (hG2 : G % 2 = 0) (hL1 : L < 2 ^ 128) (hL2 : L % 2 ^ 22 = 0)
    (hGL : L ≤ G * 2 ^ (d - 1)) (mode : Int) :
    (G / 2 - L / 2 ^ d - (if L % 2 ^ d ≠ 0 then 1 else 0) = 0 → rsum (sgi s A + sgi (!s) B) m mode = cancel mode) ∧
    (G / 2 - L / 2 ^ d - (if L % 2 ^ d ≠ 0 then 1 else 0) ≠ 0 → sgz s + fla s (G / 2 - L / 2 ^ d - (if L % 2 ^ d ≠ 0 then 1 else 0)) (eL + d) (decide (L % 2 ^ d ≠ 0)) mode = rsum (sgi s A + sgi (!s) B) m mode) := by
  have hd1 : 1 ≤ d := hd0
  obtain ⟨c, rfl⟩ : ∃ c, d = c + 1 := ⟨d - 1, by omega⟩
  rw [show c + 1 - 1 = c by omega] at hGL
  obtain ⟨-, v2, v3, v4⟩ := sum_value hG hL (d := c) (by omega)
  have eg : G / 2 * 2 ^ (c + 1) = G * 2 ^ c := by
    rw [Nat.pow_succ', ← Nat.mul_assoc]; congr 1; omega
  have hp : 0 < 2 ^ (c + 1) := Nat.pow_pos (by omega)
  have ht : L % 2 ^ (c + 1) ≠ 0 → 2 ^ 53 ≤ G / 2 - L / 2 ^ (c + 1) - 1 := by
    intro h
    have hc : 22 ≤ c := by
      rcases Nat.lt_or_ge c 22 with h1 | h1
      · exfalso
        apply h
        obtain ⟨k, hk⟩ := Nat.dvd_of_mod_eq_zero hL2
        rw [hk, show 22 = c + 1 + (21 - c) by omega, Nat.pow_add, Nat.mul_assoc]
        exact Nat.mul_mod_right _ _
      · exact h1
    have h2 : L / 2 ^ (c + 1) ≤ L / 2 ^ 23 := Nat.div_le_div_left (Nat.pow_le_pow_right (by omega) (by omega)) (by decide)
    omega
  have hdm := Nat.div_add_mod L (2 ^ (c + 1))
  constructor
  · intro h
    have h1 : L % 2 ^ (c + 1) = 0 := by
      by_cases h1 : L % 2 ^ (c + 1) = 0
      · exact h1
      · have := ht h1; rw [if_pos h1] at h; omega
    have h2 : G / 2 ≤ L / 2 ^ (c + 1) := by rw [if_neg (by simpa using h1)] at h; omega
    have h3 : G / 2 * 2 ^ (c + 1) ≤ L := by
      have := Nat.mul_le_mul_right (2 ^ (c + 1)) h2
      rw [Nat.mul_comm (L / _)] at this
      omega
    have : A = B := v3.1 (by omega)
    rw [this]
    exact rsum_none s B m mode
  · intro h
    have h1 : L < G * 2 ^ c := by
      rcases Nat.lt_or_ge L (G * 2 ^ c) with h1 | h1
      · exact h1
      · exfalso
        have h2 : L = G / 2 * 2 ^ (c + 1) := by omega
        apply h
        rw [h2, Nat.mul_div_cancel _ hp, Nat.mul_mod_left]
        simp
    rw [rsum_diff s (v4.1 h1), fla_minus s mode (by omega) ht, eg, v2.fla (by omega) s mode]
end Go.Proofs.YtjohpdobnedilaaGreatDoor
