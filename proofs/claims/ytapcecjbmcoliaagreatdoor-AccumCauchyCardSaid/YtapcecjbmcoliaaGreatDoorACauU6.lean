import Derived.Test.YtapcecjbmcoliaaGreatDoorACauU0
namespace Go.Proofs.YtapcecjbmcoliaaGreatDoor

/-- is an absolute value rounded away from zero: r of h follows what is kept, and perhaps a tail -/
def fup (neg : Bool) (mode : Int) (kept r h : Nat) (t : Bool) : Bool :=
  if mode = 1 then neg && (decide (r ≠ 0) || t) else if mode = 2 then !neg && (decide (r ≠ 0) || t) else if mode = 3 then false
  else decide (h < 2 * r) || decide (h = 2 * r) && (t || decide (kept % 2 = 1))

/-- is a number that is too great rounded to the infinity -/
def fover (neg : Bool) (mode : Int) : Bool := if mode = 1 then neg else if mode = 2 then !neg else if mode = 3 then false else true

/-- the exponent of the last place that is kept -/
def fplace (N : Nat) (e : Int) : Int := max (e + (Nat.log2 N : Int) - 52) (-1074)

/-- N 2^e, perhaps with a tail, rounded: the bits without the sign -/
def fla (neg : Bool) (N : Nat) (e : Int) (t : Bool) (mode : Int) : Nat :=
  if e + (Nat.log2 N : Int) > 1023 then (if fover neg mode then 9218868437227405312 else 9218868437227405311)
  else if fplace N e ≤ e then (fplace N e + 1074).toNat * 4503599627370496 + N * 2 ^ (e - fplace N e).toNat
  else (fplace N e + 1074).toNat * 4503599627370496 + N / 2 ^ (fplace N e - e).toNat +
    (if fup neg mode (N / 2 ^ (fplace N e - e).toNat) (N % 2 ^ (fplace N e - e).toNat) (2 ^ (fplace N e - e).toNat) t then 1 else 0)

/-- .. and the bits with the sign -/
def flr (neg : Bool) (N : Nat) (e : Int) (t : Bool) (mode : Int) : Nat := (if neg then 9223372036854775808 else 0) + fla neg N e t mode

theorem log2_of {a k : Nat} (h0 : 2 ^ k ≤ a) (h1 : a < 2 ^ (k + 1)) : Nat.log2 a = k := by
  have ha : a ≠ 0 := by have := Nat.pow_pos (n := k) (show 0 < 2 by omega); omega
  exact (Nat.log2_eq_iff ha).2 ⟨h0, h1⟩
theorem log2_shift {a : Nat} (h : a ≠ 0) (k : Nat) : Nat.log2 (a * 2 ^ k) = Nat.log2 a + k := by
  have h1 := Nat.log2_self_le h
  have h2 := @Nat.lt_log2_self a
  have hp : 0 < 2 ^ k := Nat.pow_pos (by omega)
  apply log2_of
  · rw [Nat.pow_add]; exact Nat.mul_le_mul_right _ h1
  · rw [show Nat.log2 a + k + 1 = Nat.log2 a + 1 + k by omega, Nat.pow_add]; exact Nat.mul_lt_mul_of_pos_right h2 hp
theorem log2_down {a k : Nat} (h : 2 ^ k ≤ a) : Nat.log2 (a / 2 ^ k) = Nat.log2 a - k ∧ k ≤ Nat.log2 a := by
  have hp : 0 < 2 ^ k := Nat.pow_pos (by omega)
  have ha : a ≠ 0 := by omega
  have h1 := Nat.log2_self_le ha
  have h2 := @Nat.lt_log2_self a
  have hk : k ≤ Nat.log2 a := by
    rcases Nat.lt_or_ge (Nat.log2 a) k with h3 | h3
    · have := Nat.pow_le_pow_right (show 0 < 2 by omega) (show Nat.log2 a + 1 ≤ k by omega)
      omega
    · exact h3
  refine ⟨?_, hk⟩
  obtain ⟨j, hj⟩ : ∃ j, Nat.log2 a = j + k := ⟨Nat.log2 a - k, by omega⟩
  rw [hj] at h1 h2 ⊢
  rw [show j + k - k = j by omega]
  apply log2_of
  · rw [Nat.le_div_iff_mul_le hp, ← Nat.pow_add]; exact h1
  · rw [Nat.div_lt_iff_lt_mul hp, ← Nat.pow_add, show j + 1 + k = j + k + 1 by omega]; exact h2

theorem mod_mul_pow (N D k : Nat) : N * 2 ^ k % 2 ^ (D + k) = N % 2 ^ D * 2 ^ k := by
  rw [Nat.pow_add, Nat.mul_mod_mul_right]
theorem div_mul_pow (N D k : Nat) : N * 2 ^ k / 2 ^ (D + k) = N / 2 ^ D := by
  rw [Nat.pow_add, Nat.mul_div_mul_right _ _ (Nat.pow_pos (by omega))]

theorem fup_scale (neg : Bool) (mode : Int) (kept r h c : Nat) (t : Bool) (hc : 0 < c) : fup neg mode kept (r * c) (h * c) t = fup neg mode kept r h t := by
  have e1 : (r * c ≠ 0) = (r ≠ 0) := by
    apply propext
    constructor
    · intro h1 h2; exact h1 (by rw [h2, Nat.zero_mul])
    · intro h1 h2; rcases Nat.mul_eq_zero.1 h2 with h3 | h3 <;> omega
  have e2 : (h * c < 2 * (r * c)) = (h < 2 * r) := by
    apply propext
    rw [← Nat.mul_assoc]
    exact Nat.mul_lt_mul_right hc
  have e3 : (h * c = 2 * (r * c)) = (h = 2 * r) := by
    apply propext
    rw [← Nat.mul_assoc]
    exact Nat.mul_right_cancel_iff hc
  unfold fup
  simp only [e1, e2, e3]

theorem fplace_shift {N : Nat} (h : N ≠ 0) (e : Int) (k : Nat) : fplace (N * 2 ^ k) (e - k) = fplace N e := by
  unfold fplace
  rw [log2_shift h]
  congr 1
  push_cast
  omega

/-- the same number in smaller units -/
theorem fla_shift (neg : Bool) {N : Nat} (h : N ≠ 0) (e : Int) (t : Bool) (mode : Int) (k : Nat) (ht : t = true → 2 ^ 53 ≤ N) : fla neg (N * 2 ^ k) (e - k) t mode = fla neg N e t mode := by
  have e0 : e - (k : Int) + (Nat.log2 (N * 2 ^ k) : Int) = e + (Nat.log2 N : Int) := by rw [log2_shift h]; push_cast; omega
  unfold fla
  rw [e0, fplace_shift h]
  have hpl : e + (Nat.log2 N : Int) - 52 ≤ fplace N e := by unfold fplace; omega
  generalize fplace N e = P at *
  by_cases h1 : e + (Nat.log2 N : Int) > 1023
  · rw [if_pos h1, if_pos h1]
  · rw [if_neg h1, if_neg h1]
    by_cases h2 : P ≤ e
    · rw [if_pos h2]
      have htf : t = false := by
        cases t with
        | false => rfl
        | true =>
          exfalso
          have h3 := ht rfl
          have h4 := @Nat.lt_log2_self N
          have h5 : 2 ^ 53 < 2 ^ (Nat.log2 N + 1) := by omega
          have := (Nat.pow_lt_pow_iff_right (show 1 < 2 by omega)).1 h5
          omega
      subst htf
      by_cases h3 : P ≤ e - k
      · rw [if_pos h3]
        rw [show (e - P).toNat = k + (e - k - P).toNat by omega, Nat.pow_add, Nat.mul_assoc]
      · rw [if_neg h3]
        obtain ⟨j, hj⟩ : ∃ j : Nat, (j : Int) = P - (e - k) := ⟨(P - (e - k)).toNat, by omega⟩
        have e1 : (P - (e - k)).toNat = j := by omega
        obtain ⟨i, hi⟩ : ∃ i : Nat, k = i + j := ⟨k - j, by omega⟩
        have e2 : (e - P).toNat = i := by omega
        rw [e1, e2, hi, Nat.pow_add, ← Nat.mul_assoc, Nat.mul_div_cancel _ (Nat.pow_pos (by omega)), Nat.mul_mod_left]
        have e3 : fup neg mode (N * 2 ^ i) 0 (2 ^ j) false = false := by
          have := Nat.pow_pos (n := j) (show 0 < 2 by omega)
          unfold fup
          simp <;> omega
        rw [e3]
        simp
    · rw [if_neg h2, if_neg (by omega)]
      have e1 : (P - (e - k)).toNat = (P - e).toNat + k := by omega
      rw [e1, div_mul_pow, mod_mul_pow, Nat.pow_add, fup_scale _ _ _ _ _ _ _ (Nat.pow_pos (by omega))]

/-- digits that are cut off become the tail -/
theorem fla_tail (neg : Bool) {N : Nat} (e : Int) (t : Bool) (mode : Int) (j : Nat) (hN : 2 ^ 53 ≤ N / 2 ^ j) :
    fla neg (N / 2 ^ j) (e + j) (t || decide (N % 2 ^ j ≠ 0)) mode = fla neg N e t mode := by
  have hp : 0 < 2 ^ j := Nat.pow_pos (by omega)
  have h0 : 2 ^ j ≤ N := by
    rcases Nat.lt_or_ge N (2 ^ j) with h | h
    · rw [Nat.div_eq_of_lt h] at hN
      exact absurd hN (by decide)
    · exact h
  obtain ⟨h1, h2⟩ := log2_down h0
  have e0 : e + (j : Int) + (Nat.log2 (N / 2 ^ j) : Int) = e + (Nat.log2 N : Int) := by rw [h1]; omega
  have e1 : fplace (N / 2 ^ j) (e + j) = fplace N e := by unfold fplace; rw [e0]
  have h53 : 53 ≤ Nat.log2 (N / 2 ^ j) := by
    have h4 := @Nat.lt_log2_self (N / 2 ^ j)
    have h5 : 2 ^ 53 < 2 ^ (Nat.log2 (N / 2 ^ j) + 1) := by omega
    have := (Nat.pow_lt_pow_iff_right (show 1 < 2 by omega)).1 h5
    omega
  have hpl : e + (Nat.log2 N : Int) - 52 ≤ fplace N e := by unfold fplace; omega
  unfold fla
  rw [e0, e1]
  generalize fplace N e = P at *
  by_cases h3 : e + (Nat.log2 N : Int) > 1023
  · rw [if_pos h3, if_pos h3]
  · rw [if_neg h3, if_neg h3, if_neg (show ¬ P ≤ e + (j : Int) by omega), if_neg (show ¬ P ≤ e by omega)]
    obtain ⟨D, hD⟩ : ∃ D : Nat, (P - (e + j)).toNat = D + 1 := ⟨(P - (e + j)).toNat - 1, by omega⟩
    have hD2 : (P - e).toNat = j + (D + 1) := by omega
    rw [hD, hD2, Nat.div_div_eq_div_mul, ← Nat.pow_add]
    congr 1
    have hm : N % 2 ^ (j + (D + 1)) = 2 ^ j * (N / 2 ^ j % 2 ^ (D + 1)) + N % 2 ^ j := by
      rw [Nat.pow_add, Nat.mod_mul]; omega
    have hr : N % 2 ^ j < 2 ^ j := Nat.mod_lt _ hp
    generalize N / 2 ^ (j + (D + 1)) = K
    rw [hm]
    generalize N / 2 ^ j % 2 ^ (D + 1) = r
    generalize N % 2 ^ j = s at *
    have e5 : fup neg mode K r (2 ^ (D + 1)) (t || decide (s ≠ 0)) = fup neg mode K (2 ^ j * r + s) (2 ^ (j + (D + 1))) t := by
      have a1 : (2 ^ j * r + s ≠ 0) ↔ (r ≠ 0 ∨ s ≠ 0) := by
        constructor
        · intro h
          rcases Nat.eq_zero_or_pos r with h4 | h4
          · subst h4; right; simpa using h
          · left; omega
        · rintro (h | h)
          · have := Nat.mul_pos hp (Nat.pos_of_ne_zero h); omega
          · omega
      have hH : 2 ^ (j + (D + 1)) = 2 ^ j * (2 * 2 ^ D) := by rw [Nat.pow_add, Nat.pow_succ, Nat.mul_comm (2 ^ D) 2]
      have hh : 2 ^ (D + 1) = 2 * 2 ^ D := by rw [Nat.pow_succ, Nat.mul_comm]
      rw [hH, hh]
      generalize 2 ^ D = H
      have m1 : 2 ^ j * (2 * H) = 2 * (2 ^ j * H) := by rw [← Nat.mul_assoc, Nat.mul_comm (2 ^ j) 2, Nat.mul_assoc]
      rw [m1]
      -- three cases: below the middle, in it, above it
      rcases Nat.lt_trichotomy r H with h4 | h4 | h4
      · have h5 : 2 ^ j * r + 2 ^ j ≤ 2 ^ j * H := by
          have := Nat.mul_le_mul_left (2 ^ j) (show r + 1 ≤ H from h4)
          rwa [Nat.mul_add, Nat.mul_one] at this
        have b1 : ¬ 2 * H < 2 * r := by omega
        have b2 : ¬ 2 * H = 2 * r := by omega
        have b3 : ¬ 2 * (2 ^ j * H) < 2 * (2 ^ j * r + s) := by omega
        have b4 : ¬ 2 * (2 ^ j * H) = 2 * (2 ^ j * r + s) := by omega
        unfold fup
        simp only [b1, b2, b3, b4, decide_false, Bool.false_and, Bool.or_false]
        have : (decide (r ≠ 0) || (t || decide (s ≠ 0))) = (decide (2 ^ j * r + s ≠ 0) || t) := by
          rw [decide_eq_decide.2 a1, Bool.decide_or]
          cases decide (r ≠ 0) <;> cases t <;> cases decide (s ≠ 0) <;> rfl
        rw [this]
      · subst h4
        have c1 : ¬ 2 * r < 2 * r := by omega
        have c2 : (2 * (2 ^ j * r) < 2 * (2 ^ j * r + s)) = (s ≠ 0) := by apply propext; omega
        have c3 : (2 * (2 ^ j * r) = 2 * (2 ^ j * r + s)) = (s = 0) := by apply propext; omega
        unfold fup
        simp only [c1, c2, c3, decide_false, decide_true, Bool.true_and, Bool.false_or]
        have : (decide (r ≠ 0) || (t || decide (s ≠ 0))) = (decide (2 ^ j * r + s ≠ 0) || t) := by
          rw [decide_eq_decide.2 a1, Bool.decide_or]
          cases decide (r ≠ 0) <;> cases t <;> cases decide (s ≠ 0) <;> rfl
        rw [this]
        by_cases hs : s = 0
        · subst hs; simp
        · simp [hs]
      · have h5 : 2 ^ j * H + 2 ^ j ≤ 2 ^ j * r := by
          have := Nat.mul_le_mul_left (2 ^ j) (show H + 1 ≤ r from h4)
          rwa [Nat.mul_add, Nat.mul_one] at this
        have b1 : 2 * H < 2 * r := by omega
        have b3 : 2 * (2 ^ j * H) < 2 * (2 ^ j * r + s) := by omega
        unfold fup
        simp only [b1, b3, decide_true, Bool.true_or]
        have : (decide (r ≠ 0) || (t || decide (s ≠ 0))) = (decide (2 ^ j * r + s ≠ 0) || t) := by
          rw [decide_eq_decide.2 a1, Bool.decide_or]
          cases decide (r ≠ 0) <;> cases t <;> cases decide (s ≠ 0) <;> rfl
        rw [this]
    rw [e5]
end Go.Proofs.YtapcecjbmcoliaaGreatDoor

namespace Go.Proofs.YtapcecjbmcoliaaGreatDoor

def fmag (f : Nat) : Nat := f % 9223372036854775808
def fneg (f : Nat) : Bool := decide (9223372036854775808 ≤ f)
/-- the zero with a sign -/
def sgz (b : Bool) : Nat := if b then 9223372036854775808 else 0
def ffld (f : Nat) : Nat := fmag f / 4503599627370496
/-- the significand -/
def sig (f : Nat) : Nat := if ffld f = 0 then fmag f else fmag f % 4503599627370496 + 4503599627370496
/-- the exponent of the last place, above the least one -/
def fsh (f : Nat) : Nat := ffld f - 1
/-- the absolute value in units of the least float -/
def fz (f : Nat) : Nat := sig f * 2 ^ fsh f
/-- .. and with the sign -/
def fzs (f : Nat) : Int := if fneg f then -(fz f : Int) else (fz f : Int)

theorem fmag_lt (f : Nat) : fmag f < 9223372036854775808 := Nat.mod_lt _ (by omega)
theorem f_parts {f : Nat} (h : f < 18446744073709551616) : f = sgz (fneg f) + fmag f := by
  unfold sgz fneg fmag
  by_cases h1 : 9223372036854775808 ≤ f
  · rw [if_pos (by simpa using h1)]; omega
  · rw [if_neg (by simpa using h1)]; omega
theorem sgz_le (b : Bool) : sgz b ≤ 9223372036854775808 := by unfold sgz; split <;> omega
theorem sig_lt (f : Nat) : sig f < 9007199254740992 := by
  unfold sig ffld
  have := fmag_lt f
  split <;> omega
theorem sig_zero (f : Nat) : sig f = 0 ↔ fmag f = 0 := by
  unfold sig ffld
  split <;> omega
theorem fsh_lt (f : Nat) : fsh f < 2048 := by unfold fsh ffld; have := fmag_lt f; omega
theorem fz_zero (f : Nat) : fz f = 0 ↔ fmag f = 0 := by
  unfold fz
  rw [← sig_zero]
  constructor
  · intro h
    rcases Nat.mul_eq_zero.1 h with h | h
    · exact h
    · exact absurd h (Nat.pos_iff_ne_zero.1 (Nat.pow_pos (by omega)))
  · intro h; rw [h, Nat.zero_mul]

/-- rounding is the same for the same number -/
theorem fla_eq (neg : Bool) {N M : Nat} {e f : Int} {a b : Nat} (mode : Int) (h0 : N ≠ 0) (h : N * 2 ^ a = M * 2 ^ b) (he : e - a = f - b) : fla neg N e false mode = fla neg M f false mode := by
  have hM : M ≠ 0 := by
    rintro rfl
    rw [Nat.zero_mul] at h
    rcases Nat.mul_eq_zero.1 h with h1 | h1
    · exact h0 h1
    · exact absurd h1 (Nat.pos_iff_ne_zero.1 (Nat.pow_pos (by omega)))
  rw [← fla_shift neg h0 e false mode a (by simp), ← fla_shift neg hM f false mode b (by simp), h, he]

/-- a float is its own rounding -/
theorem fla_self (neg : Bool) {f : Nat} (h0 : fmag f ≠ 0) (h1 : fmag f < 9218868437227405312) (mode : Int) : fla neg (sig f) (-1074 + (fsh f : Int)) false mode = fmag f := by
  have hs : sig f ≠ 0 := fun h => h0 ((sig_zero f).1 h)
  have hl : (Nat.log2 (sig f) : Int) ≤ 52 ∧ ((Nat.log2 (sig f) : Int) = 52 ∨ fsh f = 0) := by
    have h3 := @Nat.log2_self_le (sig f) hs
    have h4 := sig_lt f
    have h5 : Nat.log2 (sig f) < 53 := (Nat.log2_lt hs).2 (by omega)
    refine ⟨by omega, ?_⟩
    by_cases h6 : ffld f = 0
    · right; unfold fsh; omega
    · left
      have h7 : 2 ^ 52 ≤ sig f := by unfold sig; rw [if_neg h6]; omega
      have := log2_of (k := 52) h7 (by omega)
      omega
  have hp : fplace (sig f) (-1074 + (fsh f : Int)) = -1074 + (fsh f : Int) := by unfold fplace; omega
  have hf : (fsh f : Int) ≤ 2045 := by unfold fsh ffld; omega
  unfold fla
  rw [if_neg (by omega), hp, if_pos (Int.le_refl _), Int.sub_self, show (0 : Int).toNat = 0 from rfl, Nat.pow_zero, Nat.mul_one, show -1074 + (fsh f : Int) + 1074 = (fsh f : Int) by omega, Int.toNat_natCast]
  unfold sig fsh ffld
  split <;> omega

theorem fla_fz (neg : Bool) {f : Nat} (h0 : fmag f ≠ 0) (h1 : fmag f < 9218868437227405312) (mode : Int) : fla neg (fz f) (-1074) false mode = fmag f := by
  rw [← fla_self neg h0 h1 mode]
  refine fla_eq neg (a := 0) (b := fsh f) mode (fun h => h0 ((fz_zero f).1 h)) ?_ (by omega)
  rw [Nat.pow_zero, Nat.mul_one]; rfl

/-- a number with its sign, rounded -/
def rnd (S : Int) (e : Int) (mode : Int) : Nat := flr (decide (S < 0)) S.natAbs e false mode

theorem split_pow {X Y d : Nat} : (X * 2 ^ d + Y) / 2 ^ d = X + Y / 2 ^ d ∧ (X * 2 ^ d + Y) % 2 ^ d = Y % 2 ^ d := by
  have hp : 0 < 2 ^ d := Nat.pow_pos (by omega)
  rw [Nat.add_comm, Nat.add_mul_div_right _ _ hp, Nat.add_mul_mod_self_right]
  exact ⟨Nat.add_comm _ _, rfl⟩

/-- the sum of a greater number X 2^d and a lesser one Y: the last d digits of Y become the tail -/
theorem fla_plus (neg : Bool) {X Y : Nat} {d : Nat} {e : Int} (mode : Int) (hX : 2 ^ 53 ≤ X) :
    fla neg (X + Y / 2 ^ d) (e + d) (decide (Y % 2 ^ d ≠ 0)) mode = fla neg (X * 2 ^ d + Y) e false mode := by
  obtain ⟨h1, h2⟩ := split_pow (X := X) (Y := Y) (d := d)
  have := fla_tail neg (N := X * 2 ^ d + Y) e false mode d (by rw [h1]; exact Nat.le_trans hX (Nat.le_add_right _ _))
  rw [h1, h2, Bool.false_or] at this
  exact this

/-- .. and the difference -/
theorem fla_minus (neg : Bool) {X Y : Nat} {d : Nat} {e : Int} (mode : Int) (hXY : Y < X * 2 ^ d) (ht : Y % 2 ^ d ≠ 0 → 2 ^ 53 ≤ X - Y / 2 ^ d - 1) :
    fla neg (X - Y / 2 ^ d - (if Y % 2 ^ d ≠ 0 then 1 else 0)) (e + d) (decide (Y % 2 ^ d ≠ 0)) mode = fla neg (X * 2 ^ d - Y) e false mode := by
  have hp : 0 < 2 ^ d := Nat.pow_pos (by omega)
  have hdm := Nat.div_add_mod Y (2 ^ d)
  have hml := Nat.mod_lt Y hp
  have hq : Y / 2 ^ d < X := (Nat.div_lt_iff_lt_mul hp).2 hXY
  have key : ∀ D r : Nat, r < 2 ^ d → (D * 2 ^ d + r) / 2 ^ d = D ∧ (D * 2 ^ d + r) % 2 ^ d = r := by
    intro D r hr
    obtain ⟨h1, h2⟩ := split_pow (X := D) (Y := r) (d := d)
    rw [h1, h2, Nat.div_eq_of_lt hr, Nat.mod_eq_of_lt hr]
    exact ⟨rfl, rfl⟩
  have sh : ∀ D : Nat, D ≠ 0 → fla neg D (e + d) false mode = fla neg (D * 2 ^ d) e false mode := fun D h0 =>
    fla_eq neg (a := d) (b := 0) mode h0 (by rw [Nat.pow_zero, Nat.mul_one]) (by omega)
  have tl : ∀ N : Nat, 2 ^ 53 ≤ N / 2 ^ d → fla neg (N / 2 ^ d) (e + d) (false || decide (N % 2 ^ d ≠ 0)) mode = fla neg N e false mode := fun N h => fla_tail neg e false mode d h
  obtain ⟨q, hqq⟩ : ∃ q, Y / 2 ^ d = q := ⟨_, rfl⟩
  obtain ⟨r, hrr⟩ : ∃ r, Y % 2 ^ d = r := ⟨_, rfl⟩
  rw [hqq, hrr] at hdm
  rw [hrr] at hml ht
  rw [hqq] at hq ht
  rw [hqq, hrr]
  obtain ⟨P, hP⟩ : ∃ P, 2 ^ d = P := ⟨_, rfl⟩
  rw [hP] at hp hdm hml hXY key sh tl
  rw [hP]
  clear hqq hrr hP
  obtain ⟨D, hD⟩ : ∃ D, X = q + D + 1 := ⟨X - q - 1, by omega⟩
  have hX2 : X * P = P * q + D * P + P := by rw [hD, Nat.add_mul, Nat.add_mul, Nat.mul_comm q]; omega
  by_cases h : r = 0
  · rw [if_neg (by simpa using h), decide_eq_false (by simpa using h)]
    have e1 : X - q - 0 = D + 1 := by omega
    have e2 : X * P - Y = (D + 1) * P := by rw [Nat.add_mul]; omega
    rw [e1, e2]
    exact sh _ (by omega)
  · have ht := ht h
    rw [if_pos h, decide_eq_true h]
    have e1 : X - q - 1 = D := by omega
    have e2 : X * P - Y = D * P + (P - r) := by omega
    rw [e1] at ht ⊢
    obtain ⟨k1, k2⟩ := key D (P - r) (by omega)
    have := tl (D * P + (P - r)) (by rw [k1]; exact ht)
    rw [k1, k2, Bool.false_or, decide_eq_true (show P - r ≠ 0 by omega)] at this
    rw [e2]
    exact this
end Go.Proofs.YtapcecjbmcoliaaGreatDoor
