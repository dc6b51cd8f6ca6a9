import Derived.Laws.Bits64b
import Derived.WalkKit
import Derived.Test.YtapcecjbmcoliaaGreatDoorACauU6
import Derived.Test.YtapcecjbmcoliaaGreatDoorACauU1
import Derived.Deep.RegionHeld3
import Derived.Deep.CutRange
import Derived.Deep.CutBlock
import Derived.Test.YtapcecjbmcoliaaGreatDoorProg
namespace Go.Proofs.YtapcecjbmcoliaaGreatDoor

theorem bv64 {a : Nat} (ha : a < 18446744073709551616) : (BitVec.ofInt 64 (a : Int)).toNat = a := by
  rw [BitVec.ofInt_natCast, BitVec.toNat_ofNat]; exact Nat.mod_eq_of_lt (by omega)

theorem andNot_sign {f : Nat} (h : f < 18446744073709551616) : bits BinOp.andNot IntKind.u64 (f : Int) 9223372036854775808 = ((fmag f : Nat) : Int) := by
  show IntKind.u64.wrap ((BitVec.ofInt 64 (f : Int) &&& ~~~ BitVec.ofInt 64 9223372036854775808).toNat : Int) = _
  rw [BitVec.toNat_and, bv64 h, show (~~~ BitVec.ofInt 64 9223372036854775808).toNat = 2 ^ 63 - 1 by decide, Nat.and_two_pow_sub_one_eq_mod, IntKind.wrap_u64]
  unfold fmag
  omega

theorem and_frac {f : Nat} (h : f < 18446744073709551616) : bits BinOp.and IntKind.u64 (f : Int) 4503599627370495 = ((f % 4503599627370496 : Nat) : Int) := by
  have := bits_and_u64_nat f 4503599627370495 h (by omega)
  rw [show (4503599627370495 : Nat) = 2 ^ 52 - 1 from rfl, Nat.and_two_pow_sub_one_eq_mod] at this
  exact this

theorem and_p63 (f : Nat) (h : f < 18446744073709551616) : f &&& 9223372036854775808 = sgz (fneg f) := by
  have e : f = 2 ^ 63 * (f / 2 ^ 63) + f % 2 ^ 63 := (Nat.div_add_mod f (2 ^ 63)).symm
  have hm : f % 2 ^ 63 < 2 ^ 63 := Nat.mod_lt _ (by decide)
  have hq : f / 2 ^ 63 < 2 := by omega
  have h1 : f = 2 ^ 63 * (f / 2 ^ 63) ||| f % 2 ^ 63 := by rw [← Nat.two_pow_add_eq_or_of_lt hm]; exact e
  have h2 : (f % 2 ^ 63) &&& 9223372036854775808 = 0 := by
    apply Nat.eq_of_testBit_eq
    intro i
    rw [Nat.testBit_and, Nat.zero_testBit, show (9223372036854775808 : Nat) = 2 ^ 63 from rfl, Nat.testBit_two_pow]
    by_cases hi : 63 = i
    · subst hi; rw [Nat.testBit_lt_two_pow hm]; rfl
    · simp [hi]
  rw [h1, Nat.and_or_distrib_right, h2, Nat.or_zero, ← h1]
  unfold sgz fneg
  have hc : f / 2 ^ 63 = 0 ∨ f / 2 ^ 63 = 1 := by omega
  rcases hc with hc | hc
  · rw [hc, if_neg (by simp; omega)]; rfl
  · rw [hc, if_pos (by simp; omega)]; rfl

theorem and_sign {f : Nat} (h : f < 18446744073709551616) : bits BinOp.and IntKind.u64 (f : Int) 9223372036854775808 = ((sgz (fneg f) : Nat) : Int) := by
  have := bits_and_u64_nat f 9223372036854775808 h (by omega)
  rw [and_p63 f h] at this
  exact this

theorem or_add {a b k : Nat} (hb : b < 2 ^ k) (h : a * 2 ^ k + b < 18446744073709551616) : bits BinOp.or IntKind.u64 ((a * 2 ^ k : Nat) : Int) (b : Int) = ((a * 2 ^ k + b : Nat) : Int) := by
  rw [bits_or_u64_nat _ _ (by omega) (by omega), Nat.mul_comm a, Nat.two_pow_add_eq_or_of_lt hb]

theorem or_hidden {a : Nat} (h : a < 4503599627370496) : bits BinOp.or IntKind.u64 (a : Int) 4503599627370496 = ((a + 4503599627370496 : Nat) : Int) := by
  have := or_add (a := 1) (b := a) (k := 52) h (by omega)
  have h2 := bits_or_u64_nat a 4503599627370496 (by omega) (by omega)
  have h3 := bits_or_u64_nat (1 * 2 ^ 52) a (by omega) (by omega)
  rw [h3] at this
  have h4 : bits BinOp.or IntKind.u64 (a : Int) 4503599627370496 = ((a ||| 4503599627370496 : Nat) : Int) := h2
  rw [h4, Nat.or_comm]
  rw [show (1 * 2 ^ 52 : Nat) = 4503599627370496 from rfl] at this
  rw [this]
  congr 1
  omega

theorem or_sign {s : Bool} {a : Nat} (h : a < 9223372036854775808) : bits BinOp.or IntKind.u64 ((sgz s : Nat) : Int) (a : Int) = ((sgz s + a : Nat) : Int) := by
  unfold sgz
  cases s with
  | false =>
    rw [if_neg (by simp), bits_or_u64_nat _ _ (by omega) (by omega), Nat.zero_or, Nat.zero_add]
  | true =>
    rw [if_pos rfl]
    exact or_add (a := 1) (b := a) (k := 63) h (by omega)
theorem or_sign' {s : Bool} {a : Nat} (h : a < 9223372036854775808) : bits BinOp.or IntKind.u64 (a : Int) ((sgz s : Nat) : Int) = ((sgz s + a : Nat) : Int) := by
  rw [← or_sign h, bits_or_u64_nat _ _ (by omega) (by have := sgz_le s; omega), bits_or_u64_nat _ _ (by have := sgz_le s; omega) (by omega), Nat.or_comm]

theorem or_one {a : Nat} (h : a < 18446744073709551616) : bits BinOp.or IntKind.u64 (a : Int) 1 = ((a / 2 * 2 + 1 : Nat) : Int) := by
  have h2 : bits BinOp.or IntKind.u64 (a : Int) 1 = ((a ||| 1 : Nat) : Int) := bits_or_u64_nat a 1 h (by omega)
  rw [h2]
  congr 1
  have e : a = 2 ^ 1 * (a / 2) ||| a % 2 := by
    rw [← Nat.two_pow_add_eq_or_of_lt (i := 1) (by omega)]; omega
  have h3 : 2 ^ 1 * (a / 2) ||| 1 = 2 ^ 1 * (a / 2) + 1 := (Nat.two_pow_add_eq_or_of_lt (i := 1) (b := 1) (by omega) (a / 2)).symm
  have h4 : a ||| 1 = 2 ^ 1 * (a / 2) ||| 1 := by
    conv => lhs; rw [e]
    rw [Nat.or_assoc]
    congr 1
    have : a % 2 = 0 ∨ a % 2 = 1 := by omega
    rcases this with h | h <;> rw [h] <;> rfl
  rw [h4, h3]
  omega

theorem fneg_test {f : Nat} (h : f < 18446744073709551616) : fneg f = f.testBit 63 := by
  unfold fneg
  rw [Nat.testBit_eq_decide_div_mod_eq]
  exact decide_eq_decide.2 (by omega)

theorem fneg_xor {a b : Nat} (ha : a < 18446744073709551616) (hb : b < 18446744073709551616) : fneg (a ^^^ b) = (fneg a != fneg b) := by
  have hx : a ^^^ b < 2 ^ 64 := Nat.xor_lt_two_pow (by omega) (by omega)
  rw [fneg_test (by omega), fneg_test ha, fneg_test hb, Nat.testBit_xor]

theorem fmag_xor_sign {f : Nat} (h : f < 18446744073709551616) : f ^^^ 9223372036854775808 = sgz (!fneg f) + fmag f := by
  have hm : f % 2 ^ 63 < 2 ^ 63 := Nat.mod_lt _ (by decide)
  by_cases hf : 9223372036854775808 ≤ f
  · have e1 : fneg f = true := by unfold fneg; simpa using hf
    obtain ⟨m, rfl⟩ : ∃ m, f = 9223372036854775808 + m := ⟨f - 9223372036854775808, by omega⟩
    have hm : m < 2 ^ 63 := by omega
    have e2 := Nat.two_pow_add_eq_or_of_lt hm 1
    have e3 : (9223372036854775808 + m) ^^^ 9223372036854775808 = m := by
      apply Nat.eq_of_testBit_eq
      intro i
      rw [show (9223372036854775808 : Nat) + m = 2 ^ 63 * 1 + m from rfl, e2, Nat.testBit_xor, Nat.testBit_or, show 2 ^ 63 * 1 = 2 ^ 63 from rfl, show (9223372036854775808 : Nat) = 2 ^ 63 from rfl, Nat.testBit_two_pow]
      by_cases hi : 63 = i
      · subst hi; rw [Nat.testBit_lt_two_pow hm]; rfl
      · simp [hi]
    rw [e3, e1]
    unfold sgz fmag
    simp
    omega
  · have e1 : fneg f = false := by unfold fneg; simpa using hf
    have hm : f < 2 ^ 63 := by omega
    have e2 := Nat.two_pow_add_eq_or_of_lt hm 1
    have e3 : f ^^^ 9223372036854775808 = 2 ^ 63 * 1 + f := by
      apply Nat.eq_of_testBit_eq
      intro i
      rw [e2, Nat.testBit_xor, Nat.testBit_or, show 2 ^ 63 * 1 = 2 ^ 63 from rfl, show (9223372036854775808 : Nat) = 2 ^ 63 from rfl, Nat.testBit_two_pow]
      by_cases hi : 63 = i
      · subst hi; rw [Nat.testBit_lt_two_pow hm]; rfl
      · simp [hi]
    rw [e3, e1]
    unfold sgz fmag
    simp
    omega
theorem xor_sign {f : Nat} (h : f < 18446744073709551616) : bits BinOp.xor IntKind.u64 (f : Int) 9223372036854775808 = ((sgz (!fneg f) + fmag f : Nat) : Int) := by
  have := bits_xor_u64_nat f 9223372036854775808 h (by omega)
  rw [fmag_xor_sign h] at this
  exact this
end Go.Proofs.YtapcecjbmcoliaaGreatDoor

namespace Go.Proofs.YtapcecjbmcoliaaGreatDoor
open Go.RowKit

/-- block g holds a number with these parts, in a block of the call's own -/
def NBox (W : World) (g : Nat) (hi lo e : Int) (t : Bool) : Prop := W.heap[g]? = some (.cells #[.int .u64 hi, .int .u64 lo, .int .i64 e, .bool t] 69 (0, 0))

section
variable {W w w' : World} {g : Nat} {hi lo e : Int} {t : Bool}
theorem NBox.c0 (h : NBox W g hi lo e t) : W.cell? ⟨g, 0, none⟩ = some (.int .u64 hi) := by rw [cell_of_row W g 0 _ _ _ h]; rfl
theorem NBox.c1 (h : NBox W g hi lo e t) : W.cell? ⟨g, 1, none⟩ = some (.int .u64 lo) := by rw [cell_of_row W g 1 _ _ _ h]; rfl
theorem NBox.c2 (h : NBox W g hi lo e t) : W.cell? ⟨g, 2, none⟩ = some (.int .i64 e) := by rw [cell_of_row W g 2 _ _ _ h]; rfl
theorem NBox.c3 (h : NBox W g hi lo e t) : W.cell? ⟨g, 3, none⟩ = some (.bool t) := by rw [cell_of_row W g 3 _ _ _ h]; rfl
theorem NBox.f (h : NBox W g hi lo e t) (o : Nat) : W.frozen? ⟨g, o, none⟩ = false := by
  unfold NBox at h; simp [World.frozen?, h]
theorem NBox.lt (h : NBox w g hi lo e t) : g < w.heap.size := lt_of_cell h.c0
theorem NBox.kept {B : Nat} (h : NBox w g hi lo e t) (hb : Below B w w') (hg : g < B) : NBox w' g hi lo e t := by
  unfold NBox; rw [hb.block g hg]; exact h
theorem NBox.below (h : NBox w g hi lo e t) (hb : Below w.heap.size w w') : NBox w' g hi lo e t := h.kept hb h.lt
theorem NBox.only {k : Nat} (h : NBox w g hi lo e t) (ho : Only k w w') (hne : g ≠ k) : NBox w' g hi lo e t := by
  unfold NBox; rw [ho.block g hne]; exact h
end

theorem NBox.new (w : World) (hi lo e : Int) (t : Bool) : NBox (w.alloc (.cells #[.int .u64 hi, .int .u64 lo, .int .i64 e, .bool t] 69)) w.heap.size hi lo e t := heap_alloc_new w _

theorem nbox_new (w : World) (hi lo e : Int) (t : Bool) :
    ∃ W, W = w.alloc (.cells #[.int .u64 hi, .int .u64 lo, .int .i64 e, .bool t] 69) ∧ Below w.heap.size w W ∧ NBox W w.heap.size hi lo e t ∧ w.heap.size + 1 ≤ W.heap.size :=
  ⟨_, rfl, (Below.refl _ w).alloc (Nat.le_refl _) _, NBox.new w hi lo e t, by simp⟩

theorem NBox.stored {w : World} {g : Nat} {hi lo e : Int} {t : Bool} (h : NBox w g hi lo e t) (hi' lo' e' : Int) (t' : Bool) :
    NBox ((((w.setCell ⟨g, 0, none⟩ (.int .u64 hi')).setCell ⟨g, 1, none⟩ (.int .u64 lo')).setCell ⟨g, 2, none⟩ (.int .i64 e')).setCell ⟨g, 3, none⟩ (.bool t')) g hi' lo' e' t' := by
  unfold NBox at h ⊢
  simp [World.setCell, Array.getElem?_modify, h]
theorem NBox.stored012 {w : World} {g : Nat} {hi lo e : Int} {t : Bool} (h : NBox w g hi lo e t) (hi' lo' e' : Int) :
    NBox (((w.setCell ⟨g, 0, none⟩ (.int .u64 hi')).setCell ⟨g, 1, none⟩ (.int .u64 lo')).setCell ⟨g, 2, none⟩ (.int .i64 e')) g hi' lo' e' t := by
  unfold NBox at h ⊢
  simp [World.setCell, Array.getElem?_modify, h]
theorem NBox.drew {w : World} {g : Nat} {hi lo e : Int} {t : Bool} (h : NBox w g hi lo e t) : NBox w.drew g hi lo e t := h
theorem only_nset3 (w : World) (g : Nat) (u v x : Value) : Only g w (((w.setCell ⟨g, 0, none⟩ u).setCell ⟨g, 1, none⟩ v).setCell ⟨g, 2, none⟩ x) := (((Only.refl g w).setCell _ _).setCell _ _).setCell _ _
theorem only_nset4 (w : World) (g : Nat) (u v x y : Value) : Only g w ((((w.setCell ⟨g, 0, none⟩ u).setCell ⟨g, 1, none⟩ v).setCell ⟨g, 2, none⟩ x).setCell ⟨g, 3, none⟩ y) := ((((Only.refl g w).setCell _ _).setCell _ _).setCell _ _).setCell _ _

/-- two numbers boxed -/
theorem boxes_nn (w : World) (hi lo e : Int) (t : Bool) (hi' lo' e' : Int) (t' : Bool) :
    ∃ W, W = (w.alloc (.cells #[.int .u64 hi, .int .u64 lo, .int .i64 e, .bool t] 69)).alloc (.cells #[.int .u64 hi', .int .u64 lo', .int .i64 e', .bool t'] 69) ∧ Below w.heap.size w W ∧ NBox W w.heap.size hi lo e t ∧ NBox W (w.heap.size + 1) hi' lo' e' t' ∧ w.heap.size + 2 ≤ W.heap.size := by
  refine ⟨_, rfl, ((Below.refl _ w).alloc (Nat.le_refl _) _).alloc (by simp) _, ?_, ?_, by simp⟩
  · exact (NBox.new w hi lo e t).below ((Below.refl _ _).alloc (Nat.le_refl _) _)
  · have := NBox.new (w.alloc (.cells #[.int .u64 hi, .int .u64 lo, .int .i64 e, .bool t] 69)) hi' lo' e' t'
    simpa using this
/-- three numbers boxed -/
theorem boxes_nnn (w : World) (hi lo e : Int) (t : Bool) (hi' lo' e' : Int) (t' : Bool) (hi2 lo2 e2 : Int) (t2 : Bool) :
    ∃ W, W = ((w.alloc (.cells #[.int .u64 hi, .int .u64 lo, .int .i64 e, .bool t] 69)).alloc (.cells #[.int .u64 hi', .int .u64 lo', .int .i64 e', .bool t'] 69)).alloc (.cells #[.int .u64 hi2, .int .u64 lo2, .int .i64 e2, .bool t2] 69) ∧ Below w.heap.size w W ∧
      NBox W w.heap.size hi lo e t ∧ NBox W (w.heap.size + 1) hi' lo' e' t' ∧ NBox W (w.heap.size + 1 + 1) hi2 lo2 e2 t2 ∧ w.heap.size + 3 ≤ W.heap.size := by
  refine ⟨_, rfl, (((Below.refl _ w).alloc (Nat.le_refl _) _).alloc (by simp) _).alloc (by simp; omega) _, ?_, ?_, ?_, by simp⟩
  · exact (NBox.new w hi lo e t).below (((Below.refl _ _).alloc (Nat.le_refl _) _).alloc (by simp) _)
  · have := (NBox.new (w.alloc (.cells #[.int .u64 hi, .int .u64 lo, .int .i64 e, .bool t] 69)) hi' lo' e' t').below ((Below.refl _ _).alloc (Nat.le_refl _) (.cells #[.int .u64 hi2, .int .u64 lo2, .int .i64 e2, .bool t2] 69))
    simpa using this
  · have := NBox.new ((w.alloc (.cells #[.int .u64 hi, .int .u64 lo, .int .i64 e, .bool t] 69)).alloc (.cells #[.int .u64 hi', .int .u64 lo', .int .i64 e', .bool t'] 69)) hi2 lo2 e2 t2
    simpa using this
end Go.Proofs.YtapcecjbmcoliaaGreatDoor

namespace Go.Proofs.YtapcecjbmcoliaaGreatDoor

/-- the program's test: rest is what follows, as a fraction of 2^64 -/
def upc (neg : Bool) (mode : Int) (kept rest : Nat) : Bool :=
  if mode = 1 then neg && decide (rest ≠ 0) else if mode = 2 then !neg && decide (rest ≠ 0) else if mode = 3 then false
  else decide (9223372036854775808 < rest) || decide (rest = 9223372036854775808) && decide (kept % 2 = 1)

/-- the last bit is set if digits follow -/
def stick (h : Nat) (s : Bool) : Nat := if s then h / 2 * 2 + 1 else h

theorem rest_eq {h d : Nat} (hd : d ≤ 64) : h * 2 ^ (64 - d) % 18446744073709551616 = h % 2 ^ d * 2 ^ (64 - d) := by
  have e : (18446744073709551616 : Nat) = 2 ^ d * 2 ^ (64 - d) := by rw [← Nat.pow_add, show d + (64 - d) = 64 by omega]
  rw [e, Nat.mul_mod_mul_right]

theorem stick_div {h d : Nat} (s : Bool) (hd : 1 ≤ d) : stick h s / 2 ^ d = h / 2 ^ d := by
  unfold stick
  cases s with
  | false => rfl
  | true =>
    obtain ⟨k, rfl⟩ : ∃ k, d = k + 1 := ⟨d - 1, by omega⟩
    rw [if_pos rfl, Nat.pow_succ', ← Nat.div_div_eq_div_mul, ← Nat.div_div_eq_div_mul]
    congr 1
    omega
theorem stick_mod {h d : Nat} (s : Bool) (hd : 1 ≤ d) : stick h s % 2 ^ d = stick (h % 2 ^ d) s := by
  unfold stick
  cases s with
  | false => rfl
  | true =>
    obtain ⟨k, rfl⟩ : ∃ k, d = k + 1 := ⟨d - 1, by omega⟩
    rw [if_pos rfl, if_pos rfl, Nat.pow_succ', Nat.mod_mul, Nat.mod_mul]
    have e1 : (h / 2 * 2 + 1) % 2 = 1 := by omega
    have e2 : (h / 2 * 2 + 1) / 2 = h / 2 := by omega
    have e3 : (h % 2 + 2 * (h / 2 % 2 ^ k)) / 2 = h / 2 % 2 ^ k := by omega
    rw [e1, e2, e3]
    omega

theorem stick_zero {r : Nat} (s : Bool) : stick r s ≠ 0 ↔ r ≠ 0 ∨ s = true := by
  unfold stick
  cases s <;> simp
theorem up_any (r lo M c : Nat) (t s : Bool) (hc : 0 < c) (hM : 0 < M) (hs : (t || decide (lo ≠ 0)) = s) : decide (stick r s * c ≠ 0) = (decide (r * M + lo ≠ 0) || t) := by
  have f1 : (stick r s * c ≠ 0) ↔ stick r s ≠ 0 := by
    constructor
    · intro h1 h2; exact h1 (by rw [h2, Nat.zero_mul])
    · intro h1 h2; rcases Nat.mul_eq_zero.1 h2 with h3 | h3
      · exact h1 h3
      · omega
  have f2 : (r * M + lo ≠ 0) ↔ r ≠ 0 ∨ lo ≠ 0 := by
    constructor
    · intro h1
      by_cases hr : r = 0
      · right; rw [hr, Nat.zero_mul, Nat.zero_add] at h1; exact h1
      · left; exact hr
    · intro h1 h2
      have h3 : r * M = 0 ∧ lo = 0 := by omega
      rcases Nat.mul_eq_zero.1 h3.1 with h4 | h4
      · rcases h1 with h1 | h1
        · exact h1 h4
        · exact h1 h3.2
      · omega
  have d1 : decide (stick r s * c ≠ 0) = decide (r ≠ 0 ∨ s = true) := decide_eq_decide.2 (f1.trans (stick_zero s))
  have d2 : decide (r * M + lo ≠ 0) = decide (r ≠ 0 ∨ lo ≠ 0) := decide_eq_decide.2 f2
  rw [d1, d2]
  subst hs
  cases t <;> simp

theorem up_half (r lo M H q c : Nat) (K t s : Bool) (hc : 0 < c) (hM : 0 < M) (hlo : lo < M) (hs : (t || decide (lo ≠ 0)) = s) (hH : H = 2 * q * c) :
    (decide (H < stick r s * c) || decide (stick r s * c = H) && K) = (decide (4 * q * M < 2 * (r * M + lo)) || decide (4 * q * M = 2 * (r * M + lo)) && (t || K)) := by
  have f2 : (H < stick r s * c) ↔ 2 * q < stick r s := by
    rw [hH]; exact Nat.mul_lt_mul_right hc
  have f3 : (stick r s * c = H) ↔ stick r s = 2 * q := by
    rw [hH]; exact Nat.mul_right_cancel_iff hc
  have d2 : decide (H < stick r s * c) = decide (2 * q < stick r s) := decide_eq_decide.2 f2
  have d3 : decide (stick r s * c = H) = decide (stick r s = 2 * q) := decide_eq_decide.2 f3
  rw [d2, d3]
  clear d2 d3 f2 f3
  have e1 : 4 * q * M = 2 * (2 * q * M) := by rw [← Nat.mul_assoc, ← Nat.mul_assoc]
  rw [e1]
  rcases Nat.lt_trichotomy r (2 * q) with h | h | h
  · have h2 : r * M + M ≤ 2 * q * M := by
      have := Nat.mul_le_mul_right M (show r + 1 ≤ 2 * q from h)
      rwa [Nat.add_mul, Nat.one_mul] at this
    have k1 : ¬ 2 * (2 * q * M) < 2 * (r * M + lo) := by omega
    have k2 : ¬ 2 * (2 * q * M) = 2 * (r * M + lo) := by omega
    have k3 : ¬ 2 * q < stick r s := by unfold stick; split <;> omega
    have k4 : ¬ stick r s = 2 * q := by unfold stick; split <;> omega
    rw [decide_eq_false k1, decide_eq_false k2, decide_eq_false k3, decide_eq_false k4]
    rfl
  · subst h
    have k1 : (2 * (2 * q * M) < 2 * (2 * q * M + lo)) ↔ lo ≠ 0 := by omega
    have k2 : (2 * (2 * q * M) = 2 * (2 * q * M + lo)) ↔ lo = 0 := by omega
    have k3 : (2 * q < stick (2 * q) s) ↔ s = true := by unfold stick; cases s <;> simp; omega
    have k4 : (stick (2 * q) s = 2 * q) ↔ s = false := by unfold stick; cases s <;> simp; omega
    have d1 : decide (2 * (2 * q * M) < 2 * (2 * q * M + lo)) = decide (lo ≠ 0) := decide_eq_decide.2 k1
    have d2 : decide (2 * (2 * q * M) = 2 * (2 * q * M + lo)) = decide (lo = 0) := decide_eq_decide.2 k2
    have d3 : decide (2 * q < stick (2 * q) s) = decide (s = true) := decide_eq_decide.2 k3
    have d4 : decide (stick (2 * q) s = 2 * q) = decide (s = false) := decide_eq_decide.2 k4
    rw [d1, d2, d3, d4]
    clear d1 d2 d3 d4 k1 k2 k3 k4
    subst hs
    rcases Nat.eq_zero_or_pos lo with hl | hl
    · subst hl; cases t <;> simp
    · have hl : lo ≠ 0 := by omega
      cases t <;> simp [hl]
  · have h2 : 2 * q * M + M ≤ r * M := by
      have := Nat.mul_le_mul_right M (show 2 * q + 1 ≤ r from h)
      rwa [Nat.add_mul, Nat.one_mul] at this
    have k1 : 2 * (2 * q * M) < 2 * (r * M + lo) := by omega
    have k3 : 2 * q < stick r s := by unfold stick; split <;> omega
    rw [decide_eq_true k1, decide_eq_true k3]
    rfl

/-- the program's test is the right one -/
theorem upc_fup (neg : Bool) (mode : Int) {h lo d : Nat} (t : Bool) (kept : Nat) (hd : 2 ≤ d) (hd2 : d ≤ 64) (hlo : lo < 18446744073709551616) :
    upc neg mode kept (stick h (t || decide (lo ≠ 0)) * 2 ^ (64 - d) % 18446744073709551616) = fup neg mode kept ((h * 18446744073709551616 + lo) % 2 ^ (d + 64)) (2 ^ (d + 64)) t := by
  rw [rest_eq hd2, stick_mod _ (by omega)]
  have e1 : (h * 18446744073709551616 + lo) % 2 ^ (d + 64) = h % 2 ^ d * 18446744073709551616 + lo := by
    rw [Nat.pow_add, Nat.mul_comm (2 ^ d), show (2 : Nat) ^ 64 = 18446744073709551616 from rfl, Nat.mod_mul]
    rw [show (h * 18446744073709551616 + lo) % 18446744073709551616 = lo by omega, show (h * 18446744073709551616 + lo) / 18446744073709551616 = h by omega]
    rw [Nat.mul_comm, Nat.add_comm]
  rw [e1]
  have hp : 0 < 2 ^ (64 - d) := Nat.pow_pos (by omega)
  obtain ⟨q, hq⟩ : ∃ q : Nat, 2 ^ d = 4 * q := ⟨2 ^ (d - 2), by rw [show (4 : Nat) = 2 ^ 2 from rfl, ← Nat.pow_add, show 2 + (d - 2) = d by omega]⟩
  have e2 : (18446744073709551616 : Nat) = 4 * q * 2 ^ (64 - d) := by rw [← hq, ← Nat.pow_add, show d + (64 - d) = 64 by omega]
  have e3 : (2 : Nat) ^ (d + 64) = 4 * q * 18446744073709551616 := by rw [Nat.pow_add, hq]
  rw [e3]
  generalize h % 2 ^ d = r
  have e4 : (9223372036854775808 : Nat) = 2 * q * 2 ^ (64 - d) := by
    have : 2 * (2 * q * 2 ^ (64 - d)) = 4 * q * 2 ^ (64 - d) := by rw [← Nat.mul_assoc, ← Nat.mul_assoc]
    omega
  generalize 2 ^ (64 - d) = c at *
  obtain ⟨s, hs⟩ : ∃ s, (t || decide (lo ≠ 0)) = s := ⟨_, rfl⟩
  rw [hs]
  have g1 := up_any r lo 18446744073709551616 c t s hp (by decide) hs
  have g2 := up_half r lo 18446744073709551616 9223372036854775808 q c (decide (kept % 2 = 1)) t s hp (by decide) hlo hs e4
  unfold upc fup
  rw [g1, g2]

/-- a normalized number of 128 bits, rounded: the general case -/
theorem fla_main (neg : Bool) {h lo d : Nat} {e : Int} (t : Bool) (mode : Int) (h0 : 9223372036854775808 ≤ h) (h1 : h < 18446744073709551616) (hlo : lo < 18446744073709551616)
    (htop : e + 127 ≤ 1023) (hd : (d : Int) = max (e + 75) (-1074) - e - 64) (hd2 : d ≤ 64) :
    fla neg (h * 18446744073709551616 + lo) e t mode = (max (e + 75) (-1074) + 1074).toNat * 4503599627370496 + stick h (t || decide (lo ≠ 0)) / 2 ^ d +
      (if upc neg mode (stick h (t || decide (lo ≠ 0)) / 2 ^ d) (stick h (t || decide (lo ≠ 0)) * 2 ^ (64 - d) % 18446744073709551616) then 1 else 0) := by
  have hl : Nat.log2 (h * 18446744073709551616 + lo) = 127 := log2_of (by omega) (by omega)
  have hp : fplace (h * 18446744073709551616 + lo) e = max (e + 75) (-1074) := by unfold fplace; rw [hl]; omega
  unfold fla
  rw [hl, hp, if_neg (by omega), if_neg (by omega), show (max (e + 75) (-1074) - e).toNat = d + 64 by omega]
  rw [upc_fup neg mode t _ (by omega) hd2 hlo, stick_div _ (by omega)]
  have e1 : (h * 18446744073709551616 + lo) / 2 ^ (d + 64) = h / 2 ^ d := by
    rw [Nat.pow_add, Nat.mul_comm (2 ^ d), ← Nat.div_div_eq_div_mul, show (2 : Nat) ^ 64 = 18446744073709551616 from rfl, show (h * 18446744073709551616 + lo) / 18446744073709551616 = h by omega]
  rw [e1]

/-- .. a number far below the least float -/
theorem fla_least (neg : Bool) {h lo : Nat} {e : Int} (t : Bool) (mode : Int) (h0 : 9223372036854775808 ≤ h) (h1 : h < 18446744073709551616) (hlo : lo < 18446744073709551616)
    (hd : 64 < max (e + 75) (-1074) - e - 64) :
    fla neg (h * 18446744073709551616 + lo) e t mode = (if upc neg mode 0 1 then 1 else 0) := by
  have hl : Nat.log2 (h * 18446744073709551616 + lo) = 127 := log2_of (by omega) (by omega)
  have hp : fplace (h * 18446744073709551616 + lo) e = -1074 := by unfold fplace; rw [hl]; omega
  unfold fla
  rw [hl, hp, if_neg (by omega), if_neg (by omega)]
  obtain ⟨D, hD⟩ : ∃ D, (-1074 - e).toNat = D + 129 := ⟨(-1074 - e).toNat - 129, by omega⟩
  have hb : h * 18446744073709551616 + lo < 2 ^ 128 := by omega
  have hb2 : 2 * 2 ^ 128 ≤ 2 ^ (D + 129) := by
    rw [Nat.pow_add, show (2 : Nat) ^ 129 = 2 * 2 ^ 128 from rfl]
    exact Nat.le_mul_of_pos_left _ (Nat.pow_pos (by omega))
  rw [hD, Nat.div_eq_of_lt (by omega), Nat.mod_eq_of_lt (by omega)]
  generalize 2 ^ (D + 129) = Q at *
  rw [show (-1074 + 1074 : Int).toNat = 0 by omega, Nat.zero_mul]
  simp only [Nat.zero_add]
  have hh : fup neg mode 0 (h * 18446744073709551616 + lo) Q t = upc neg mode 0 1 := by
    unfold fup upc
    rw [decide_eq_true (show h * 18446744073709551616 + lo ≠ 0 by omega), decide_eq_true (show (1 : Nat) ≠ 0 by omega), decide_eq_false (show ¬ Q < 2 * (h * 18446744073709551616 + lo) by omega), decide_eq_false (show ¬ Q = 2 * (h * 18446744073709551616 + lo) by omega),
      decide_eq_false (show ¬ (9223372036854775808 : Nat) < 1 by omega), decide_eq_false (show ¬ (1 : Nat) = 9223372036854775808 by omega), Bool.true_or]
    rfl
  rw [hh]

/-- .. a number too great -/
theorem fla_great (neg : Bool) {h lo : Nat} {e : Int} (t : Bool) (mode : Int) (h0 : 9223372036854775808 ≤ h) (h1 : h < 18446744073709551616) (hlo : lo < 18446744073709551616)
    (htop : 1023 < e + 127) :
    fla neg (h * 18446744073709551616 + lo) e t mode = 9218868437227405311 + (if upc neg mode 9007199254740991 18437736874454810624 then 1 else 0) := by
  have hl : Nat.log2 (h * 18446744073709551616 + lo) = 127 := log2_of (by omega) (by omega)
  unfold fla
  rw [hl, if_pos (by omega)]
  unfold fover upc
  rw [decide_eq_true (show (18437736874454810624 : Nat) ≠ 0 by omega), decide_eq_true (show (9223372036854775808 : Nat) < 18437736874454810624 by omega)]
  cases neg <;> (repeat' split) <;> simp_all
end Go.Proofs.YtapcecjbmcoliaaGreatDoor
