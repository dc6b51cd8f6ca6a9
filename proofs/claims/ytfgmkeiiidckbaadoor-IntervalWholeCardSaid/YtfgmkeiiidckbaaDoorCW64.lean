/- What the operations on the bits of 64-bit words do, as plain numbers. -/
import Derived.Laws.Bits64b
import Derived.WalkKit
import Derived.Test.YtfgmkeiiidckbaaDoorGs
namespace Go.Proofs.YtfgmkeiiidckbaaDoor

theorem bv64 {a : Nat} (ha : a < 18446744073709551616) : (BitVec.ofInt 64 (a : Int)).toNat = a := by
  rw [BitVec.ofInt_natCast, BitVec.toNat_ofNat]; exact Nat.mod_eq_of_lt (by omega)

theorem andNot_sign {f : Nat} (h : f < 18446744073709551616) : bits BinOp.andNot IntKind.u64 (f : Int) 9223372036854775808 = ((fmag f : Nat) : Int) := by
  show IntKind.u64.wrap ((BitVec.ofInt 64 (f : Int) &&& ~~~ BitVec.ofInt 64 9223372036854775808).toNat : Int) = _
  rw [BitVec.toNat_and, bv64 h, show (~~~ BitVec.ofInt 64 9223372036854775808).toNat = 2 ^ 63 - 1 by decide, Nat.and_two_pow_sub_one_eq_mod, IntKind.wrap_u64]
  unfold fmag
  omega

theorem and_frac {f : Nat} (h : f < 18446744073709551616) : bits BinOp.and IntKind.u64 (f : Int) 4503599627370495 = ((f % 4503599627370496 : Nat) : Int) := by
  have := bits_and_u64_nat f 4503599627370495 h (by omega)
  rw [show (4503599627370495 : Nat) = 2 ^ 52 - 1 from rfl, Nat.and_two_pow_sub_one_eq_mod] at this
  exact this

theorem and_p63 (f : Nat) (h : f < 18446744073709551616) : f &&& 9223372036854775808 = sgz (fneg f) := by
  have e : f = 2 ^ 63 * (f / 2 ^ 63) + f % 2 ^ 63 := (Nat.div_add_mod f (2 ^ 63)).symm
  have hm : f % 2 ^ 63 < 2 ^ 63 := Nat.mod_lt _ (by decide)
  have hq : f / 2 ^ 63 < 2 := by omega
  have h1 : f = 2 ^ 63 * (f / 2 ^ 63) ||| f % 2 ^ 63 := by rw [← Nat.two_pow_add_eq_or_of_lt hm]; exact e
  have h2 : (f % 2 ^ 63) &&& 9223372036854775808 = 0 := by
    apply Nat.eq_of_testBit_eq
    intro i
    rw [Nat.testBit_and, Nat.zero_testBit, show (9223372036854775808 : Nat) = 2 ^ 63 from rfl, Nat.testBit_two_pow]
    by_cases hi : 63 = i
    · subst hi; rw [Nat.testBit_lt_two_pow hm]; rfl
    · simp [hi]
  rw [h1, Nat.and_or_distrib_right, h2, Nat.or_zero, ← h1]
  unfold sgz fneg
  have hc : f / 2 ^ 63 = 0 ∨ f / 2 ^ 63 = 1 := by omega
  rcases hc with hc | hc
  · rw [hc, if_neg (by simp; omega)]; rfl
  · rw [hc, if_pos (by simp; omega)]; rfl

theorem and_sign {f : Nat} (h : f < 18446744073709551616) : bits BinOp.and IntKind.u64 (f : Int) 9223372036854775808 = ((sgz (fneg f) : Nat) : Int) := by
  have := bits_and_u64_nat f 9223372036854775808 h (by omega)
  rw [and_p63 f h] at this
  exact this

theorem or_add {a b k : Nat} (hb : b < 2 ^ k) (h : a * 2 ^ k + b < 18446744073709551616) : bits BinOp.or IntKind.u64 ((a * 2 ^ k : Nat) : Int) (b : Int) = ((a * 2 ^ k + b : Nat) : Int) := by
  rw [bits_or_u64_nat _ _ (by omega) (by omega), Nat.mul_comm a, Nat.two_pow_add_eq_or_of_lt hb]

theorem or_hidden {a : Nat} (h : a < 4503599627370496) : bits BinOp.or IntKind.u64 (a : Int) 4503599627370496 = ((a + 4503599627370496 : Nat) : Int) := by
  have := or_add (a := 1) (b := a) (k := 52) h (by omega)
  have h2 := bits_or_u64_nat a 4503599627370496 (by omega) (by omega)
  have h3 := bits_or_u64_nat (1 * 2 ^ 52) a (by omega) (by omega)
  rw [h3] at this
  have h4 : bits BinOp.or IntKind.u64 (a : Int) 4503599627370496 = ((a ||| 4503599627370496 : Nat) : Int) := h2
  rw [h4, Nat.or_comm]
  rw [show (1 * 2 ^ 52 : Nat) = 4503599627370496 from rfl] at this
  rw [this]
  congr 1
  omega

theorem or_sign {s : Bool} {a : Nat} (h : a < 9223372036854775808) : bits BinOp.or IntKind.u64 ((sgz s : Nat) : Int) (a : Int) = ((sgz s + a : Nat) : Int) := by
  unfold sgz
  cases s with
  | false =>
    rw [if_neg (by simp), bits_or_u64_nat _ _ (by omega) (by omega), Nat.zero_or, Nat.zero_add]
  | true =>
    rw [if_pos rfl]
    exact or_add (a := 1) (b := a) (k := 63) h (by omega)
theorem or_sign' {s : Bool} {a : Nat} (h : a < 9223372036854775808) : bits BinOp.or IntKind.u64 (a : Int) ((sgz s : Nat) : Int) = ((sgz s + a : Nat) : Int) := by
  rw [← or_sign h, bits_or_u64_nat _ _ (by omega) (by have := sgz_le s; omega), bits_or_u64_nat _ _ (by have := sgz_le s; omega) (by omega), Nat.or_comm]

theorem or_one {a : Nat} (h : a < 18446744073709551616) : bits BinOp.or IntKind.u64 (a : Int) 1 = ((a / 2 * 2 + 1 : Nat) : Int) := by
  have h2 : bits BinOp.or IntKind.u64 (a : Int) 1 = ((a ||| 1 : Nat) : Int) := bits_or_u64_nat a 1 h (by omega)
  rw [h2]
  congr 1
  have e : a = 2 ^ 1 * (a / 2) ||| a % 2 := by
    rw [← Nat.two_pow_add_eq_or_of_lt (i := 1) (by omega)]; omega
  have h3 : 2 ^ 1 * (a / 2) ||| 1 = 2 ^ 1 * (a / 2) + 1 := (Nat.two_pow_add_eq_or_of_lt (i := 1) (b := 1) (by omega) (a / 2)).symm
  have h4 : a ||| 1 = 2 ^ 1 * (a / 2) ||| 1 := by
    conv => lhs; rw [e]
    rw [Nat.or_assoc]
    congr 1
    have : a % 2 = 0 ∨ a % 2 = 1 := by omega
    rcases this with h | h <;> rw [h] <;> rfl
  rw [h4, h3]
  omega

theorem fneg_test {f : Nat} (h : f < 18446744073709551616) : fneg f = f.testBit 63 := by
  unfold fneg
  rw [Nat.testBit_eq_decide_div_mod_eq]
  exact decide_eq_decide.2 (by omega)

theorem fneg_xor {a b : Nat} (ha : a < 18446744073709551616) (hb : b < 18446744073709551616) : fneg (a ^^^ b) = (fneg a != fneg b) := by
  have hx : a ^^^ b < 2 ^ 64 := Nat.xor_lt_two_pow (by omega) (by omega)
  rw [fneg_test (by omega), fneg_test ha, fneg_test hb, Nat.testBit_xor]

theorem fmag_xor_sign {f : Nat} (h : f < 18446744073709551616) : f ^^^ 9223372036854775808 = sgz (!fneg f) + fmag f := by
  have hm : f % 2 ^ 63 < 2 ^ 63 := Nat.mod_lt _ (by decide)
  by_cases hf : 9223372036854775808 ≤ f
  · have e1 : fneg f = true := by unfold fneg; simpa using hf
    obtain ⟨m, rfl⟩ : ∃ m, f = 9223372036854775808 + m := ⟨f - 9223372036854775808, by omega⟩
    have hm : m < 2 ^ 63 := by omega
    have e2 := Nat.two_pow_add_eq_or_of_lt hm 1
    have e3 : (9223372036854775808 + m) ^^^ 9223372036854775808 = m := by
      apply Nat.eq_of_testBit_eq
      intro i
      rw [show (9223372036854775808 : Nat) + m = 2 ^ 63 * 1 + m from rfl, e2, Nat.testBit_xor, Nat.testBit_or, show 2 ^ 63 * 1 = 2 ^ 63 from rfl, show (9223372036854775808 : Nat) = 2 ^ 63 from rfl, Nat.testBit_two_pow]
      by_cases hi : 63 = i
      · subst hi; rw [Nat.testBit_lt_two_pow hm]; rfl
      · simp [hi]
    rw [e3, e1]
    unfold sgz fmag
    simp
    omega
  · have e1 : fneg f = false := by unfold fneg; simpa using hf
    have hm : f < 2 ^ 63 := by omega
    have e2 := Nat.two_pow_add_eq_or_of_lt hm 1
    have e3 : f ^^^ 9223372036854775808 = 2 ^ 63 * 1 + f := by
      apply Nat.eq_of_testBit_eq
      intro i
      rw [e2, Nat.testBit_xor, Nat.testBit_or, show 2 ^ 63 * 1 = 2 ^ 63 from rfl, show (9223372036854775808 : Nat) = 2 ^ 63 from rfl, Nat.testBit_two_pow]
      by_cases hi : 63 = i
      · subst hi; rw [Nat.testBit_lt_two_pow hm]; rfl
      · simp [hi]
    rw [e3, e1]
    unfold sgz fmag
    simp
    omega
theorem xor_sign {f : Nat} (h : f < 18446744073709551616) : bits BinOp.xor IntKind.u64 (f : Int) 9223372036854775808 = ((sgz (!fneg f) + fmag f : Nat) : Int) := by
  have := bits_xor_u64_nat f 9223372036854775808 h (by omega)
  rw [fmag_xor_sign h] at this
  exact this
end Go.Proofs.YtfgmkeiiidckbaaDoor
