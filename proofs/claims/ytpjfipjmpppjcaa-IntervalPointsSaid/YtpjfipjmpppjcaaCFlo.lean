/- Floats as bit patterns, as plain facts: their parts, their exact values, and rounding a sum. No program stands here. -/
import Derived.Test.YtpjfipjmpppjcaaCFl
namespace Go.Proofs.Ytpjfipjmpppjcaa

def fmag (f : Nat) : Nat := f % 9223372036854775808
def fneg (f : Nat) : Bool := decide (9223372036854775808 ≤ f)
/-- the zero with a sign -/
def sgz (b : Bool) : Nat := if b then 9223372036854775808 else 0
def ffld (f : Nat) : Nat := fmag f / 4503599627370496
/-- the significand -/
def sig (f : Nat) : Nat := if ffld f = 0 then fmag f else fmag f % 4503599627370496 + 4503599627370496
/-- the exponent of the last place, above the least one -/
def fsh (f : Nat) : Nat := ffld f - 1
/-- the absolute value in units of the least float -/
def fz (f : Nat) : Nat := sig f * 2 ^ fsh f
/-- .. and with the sign -/
def fzs (f : Nat) : Int := if fneg f then -(fz f : Int) else (fz f : Int)

theorem fmag_lt (f : Nat) : fmag f < 9223372036854775808 := Nat.mod_lt _ (by omega)
theorem f_parts {f : Nat} (h : f < 18446744073709551616) : f = sgz (fneg f) + fmag f := by
  unfold sgz fneg fmag
  by_cases h1 : 9223372036854775808 ≤ f
  · rw [if_pos (by simpa using h1)]; omega
  · rw [if_neg (by simpa using h1)]; omega
theorem sgz_le (b : Bool) : sgz b ≤ 9223372036854775808 := by unfold sgz; split <;> omega
theorem sig_lt (f : Nat) : sig f < 9007199254740992 := by
  unfold sig ffld
  have := fmag_lt f
  split <;> omega
theorem sig_zero (f : Nat) : sig f = 0 ↔ fmag f = 0 := by
  unfold sig ffld
  split <;> omega
theorem fsh_lt (f : Nat) : fsh f < 2048 := by unfold fsh ffld; have := fmag_lt f; omega
theorem fz_zero (f : Nat) : fz f = 0 ↔ fmag f = 0 := by
  unfold fz
  rw [← sig_zero]
  constructor
  · intro h
    rcases Nat.mul_eq_zero.1 h with h | h
    · exact h
    · exact absurd h (Nat.pos_iff_ne_zero.1 (Nat.pow_pos (by omega)))
  · intro h; rw [h, Nat.zero_mul]

/-- rounding is the same for the same number -/
theorem fla_eq (neg : Bool) {N M : Nat} {e f : Int} {a b : Nat} (mode : Int) (h0 : N ≠ 0) (h : N * 2 ^ a = M * 2 ^ b) (he : e - a = f - b) : fla neg N e false mode = fla neg M f false mode := by
  have hM : M ≠ 0 := by
    rintro rfl
    rw [Nat.zero_mul] at h
    rcases Nat.mul_eq_zero.1 h with h1 | h1
    · exact h0 h1
    · exact absurd h1 (Nat.pos_iff_ne_zero.1 (Nat.pow_pos (by omega)))
  rw [← fla_shift neg h0 e false mode a (by simp), ← fla_shift neg hM f false mode b (by simp), h, he]

/-- a float is its own rounding -/
theorem fla_self (neg : Bool) {f : Nat} (h0 : fmag f ≠ 0) (h1 : fmag f < 9218868437227405312) (mode : Int) : fla neg (sig f) (-1074 + (fsh f : Int)) false mode = fmag f := by
  have hs : sig f ≠ 0 := fun h => h0 ((sig_zero f).1 h)
  have hl : (Nat.log2 (sig f) : Int) ≤ 52 ∧ ((Nat.log2 (sig f) : Int) = 52 ∨ fsh f = 0) := by
    have h3 := @Nat.log2_self_le (sig f) hs
    have h4 := sig_lt f
    have h5 : Nat.log2 (sig f) < 53 := (Nat.log2_lt hs).2 (by omega)
    refine ⟨by omega, ?_⟩
    by_cases h6 : ffld f = 0
    · right; unfold fsh; omega
    · left
      have h7 : 2 ^ 52 ≤ sig f := by unfold sig; rw [if_neg h6]; omega
      have := log2_of (k := 52) h7 (by omega)
      omega
  have hp : fplace (sig f) (-1074 + (fsh f : Int)) = -1074 + (fsh f : Int) := by unfold fplace; omega
  have hf : (fsh f : Int) ≤ 2045 := by unfold fsh ffld; omega
  unfold fla
  rw [if_neg (by omega), hp, if_pos (Int.le_refl _), Int.sub_self, show (0 : Int).toNat = 0 from rfl, Nat.pow_zero, Nat.mul_one, show -1074 + (fsh f : Int) + 1074 = (fsh f : Int) by omega, Int.toNat_natCast]
  unfold sig fsh ffld
  split <;> omega

theorem fla_fz (neg : Bool) {f : Nat} (h0 : fmag f ≠ 0) (h1 : fmag f < 9218868437227405312) (mode : Int) : fla neg (fz f) (-1074) false mode = fmag f := by
  rw [← fla_self neg h0 h1 mode]
  refine fla_eq neg (a := 0) (b := fsh f) mode (fun h => h0 ((fz_zero f).1 h)) ?_ (by omega)
  rw [Nat.pow_zero, Nat.mul_one]; rfl

/-- a number with its sign, rounded -/
def rnd (S : Int) (e : Int) (mode : Int) : Nat := flr (decide (S < 0)) S.natAbs e false mode

theorem split_pow {X Y d : Nat} : (X * 2 ^ d + Y) / 2 ^ d = X + Y / 2 ^ d ∧ (X * 2 ^ d + Y) % 2 ^ d = Y % 2 ^ d := by
  have hp : 0 < 2 ^ d := Nat.pow_pos (by omega)
  rw [Nat.add_comm, Nat.add_mul_div_right _ _ hp, Nat.add_mul_mod_self_right]
  exact ⟨Nat.add_comm _ _, rfl⟩

/-- the sum of a greater number X 2^d and a lesser one Y: the last d digits of Y become the tail -/
theorem fla_plus (neg : Bool) {X Y : Nat} {d : Nat} {e : Int} (mode : Int) (hX : 2 ^ 53 ≤ X) :
    fla neg (X + Y / 2 ^ d) (e + d) (decide (Y % 2 ^ d ≠ 0)) mode = fla neg (X * 2 ^ d + Y) e false mode := by
  obtain ⟨h1, h2⟩ := split_pow (X := X) (Y := Y) (d := d)
  have := fla_tail neg (N := X * 2 ^ d + Y) e false mode d (by rw [h1]; exact Nat.le_trans hX (Nat.le_add_right _ _))
  rw [h1, h2, Bool.false_or] at this
  exact this

/-- .. and the difference -/
theorem fla_minus (neg : Bool) {X Y : Nat} {d : Nat} {e : Int} (mode : Int) (hXY : Y < X * 2 ^ d) (ht : Y % 2 ^ d ≠ 0 → 2 ^ 53 ≤ X - Y / 2 ^ d - 1) :
    fla neg (X - Y / 2 ^ d - (if Y % 2 ^ d ≠ 0 then 1 else 0)) (e + d) (decide (Y % 2 ^ d ≠ 0)) mode = fla neg (X * 2 ^ d - Y) e false mode := by
  have hp : 0 < 2 ^ d := Nat.pow_pos (by omega)
  have hdm := Nat.div_add_mod Y (2 ^ d)
  have hml := Nat.mod_lt Y hp
  have hq : Y / 2 ^ d < X := (Nat.div_lt_iff_lt_mul hp).2 hXY
  have key : ∀ D r : Nat, r < 2 ^ d → (D * 2 ^ d + r) / 2 ^ d = D ∧ (D * 2 ^ d + r) % 2 ^ d = r := by
    intro D r hr
    obtain ⟨h1, h2⟩ := split_pow (X := D) (Y := r) (d := d)
    rw [h1, h2, Nat.div_eq_of_lt hr, Nat.mod_eq_of_lt hr]
    exact ⟨rfl, rfl⟩
  have sh : ∀ D : Nat, D ≠ 0 → fla neg D (e + d) false mode = fla neg (D * 2 ^ d) e false mode := fun D h0 =>
    fla_eq neg (a := d) (b := 0) mode h0 (by rw [Nat.pow_zero, Nat.mul_one]) (by omega)
  have tl : ∀ N : Nat, 2 ^ 53 ≤ N / 2 ^ d → fla neg (N / 2 ^ d) (e + d) (false || decide (N % 2 ^ d ≠ 0)) mode = fla neg N e false mode := fun N h => fla_tail neg e false mode d h
  obtain ⟨q, hqq⟩ : ∃ q, Y / 2 ^ d = q := ⟨_, rfl⟩
  obtain ⟨r, hrr⟩ : ∃ r, Y % 2 ^ d = r := ⟨_, rfl⟩
  rw [hqq, hrr] at hdm
  rw [hrr] at hml ht
  rw [hqq] at hq ht
  rw [hqq, hrr]
  obtain ⟨P, hP⟩ : ∃ P, 2 ^ d = P := ⟨_, rfl⟩
  rw [hP] at hp hdm hml hXY key sh tl
  rw [hP]
  clear hqq hrr hP
  obtain ⟨D, hD⟩ : ∃ D, X = q + D + 1 := ⟨X - q - 1, by omega⟩
  have hX2 : X * P = P * q + D * P + P := by rw [hD, Nat.add_mul, Nat.add_mul, Nat.mul_comm q]; omega
  by_cases h : r = 0
  · rw [if_neg (by simpa using h), decide_eq_false (by simpa using h)]
    have e1 : X - q - 0 = D + 1 := by omega
    have e2 : X * P - Y = (D + 1) * P := by rw [Nat.add_mul]; omega
    rw [e1, e2]
    exact sh _ (by omega)
  · have ht := ht h
    rw [if_pos h, decide_eq_true h]
    have e1 : X - q - 1 = D := by omega
    have e2 : X * P - Y = D * P + (P - r) := by omega
    rw [e1] at ht ⊢
    obtain ⟨k1, k2⟩ := key D (P - r) (by omega)
    have := tl (D * P + (P - r)) (by rw [k1]; exact ht)
    rw [k1, k2, Bool.false_or, decide_eq_true (show P - r ≠ 0 by omega)] at this
    rw [e2]
    exact this
end Go.Proofs.Ytpjfipjmpppjcaa
