/- What the operations on the bits of 64-bit words do, as plain numbers. -/
import Derived.Laws.Bits64b
import Derived.WalkKit
import Derived.Test.YtjohpdobnedilaaGreatDoorGs
import Derived.Shelf.Small.Bits
import Derived.Shelf.Bits.Mul64
import Derived.Shelf.Spec.BitsCarry
import Derived.Test.YtjohpdobnedilaaGreatDoorProg
import Derived.Test.YtjohpdobnedilaaGreatDoorGa
import Derived.Deep.RegionHeld3
import Derived.Deep.CutRange
import Derived.Deep.CutBlock
import Derived.Test.YtjohpdobnedilaaGreatDoorGc
import Derived.Test.YtjohpdobnedilaaGreatDoorGd
import Derived.RegionTactic
import Derived.ChangeAlike
import Derived.BigRegion
namespace Go.Proofs.YtjohpdobnedilaaGreatDoor

theorem bv64 {a : Nat} (ha : a < 18446744073709551616) : (BitVec.ofInt 64 (a : Int)).toNat = a := by
  rw [BitVec.ofInt_natCast, BitVec.toNat_ofNat]; exact Nat.mod_eq_of_lt (by omega)

theorem andNot_sign {f : Nat} (h : f < 18446744073709551616) : bits BinOp.andNot IntKind.u64 (f : Int) 9223372036854775808 = ((fmag f : Nat) : Int) := by
  show IntKind.u64.wrap ((BitVec.ofInt 64 (f : Int) &&& ~~~ BitVec.ofInt 64 9223372036854775808).toNat : Int) = _
  rw [BitVec.toNat_and, bv64 h, show (~~~ BitVec.ofInt 64 9223372036854775808).toNat = 2 ^ 63 - 1 by decide, Nat.and_two_pow_sub_one_eq_mod, IntKind.wrap_u64]
  unfold fmag
  omega

theorem and_frac {f : Nat} (h : f < 18446744073709551616) : bits BinOp.and IntKind.u64 (f : Int) 4503599627370495 = ((f % 4503599627370496 : Nat) : Int) := by
  have := bits_and_u64_nat f 4503599627370495 h (by omega)
  rw [show (4503599627370495 : Nat) = 2 ^ 52 - 1 from rfl, Nat.and_two_pow_sub_one_eq_mod] at this
  exact this

theorem and_p63 (f : Nat) (h : f < 18446744073709551616) : f &&& 9223372036854775808 = sgz (fneg f) := by
  have e : f = 2 ^ 63 * (f / 2 ^ 63) + f % 2 ^ 63 := (Nat.div_add_mod f (2 ^ 63)).symm
  have hm : f % 2 ^ 63 < 2 ^ 63 := Nat.mod_lt _ (by decide)
  have hq : f / 2 ^ 63 < 2 := by omega
  have h1 : f = 2 ^ 63 * (f / 2 ^ 63) ||| f % 2 ^ 63 := by rw [← Nat.two_pow_add_eq_or_of_lt hm]; exact e
  have h2 : (f % 2 ^ 63) &&& 9223372036854775808 = 0 := by
    apply Nat.eq_of_testBit_eq
    intro i
    rw [Nat.testBit_and, Nat.zero_testBit, show (9223372036854775808 : Nat) = 2 ^ 63 from rfl, Nat.testBit_two_pow]
    by_cases hi : 63 = i
    · subst hi; rw [Nat.testBit_lt_two_pow hm]; rfl
    · simp [hi]
  rw [h1, Nat.and_or_distrib_right, h2, Nat.or_zero, ← h1]
  unfold sgz fneg
  have hc : f / 2 ^ 63 = 0 ∨ f / 2 ^ 63 = 1 := by omega
  rcases hc with hc | hc
  · rw [hc, if_neg (by simp; omega)]; rfl
  · rw [hc, if_pos (by simp; omega)]; rfl

theorem and_sign {f : Nat} (h : f < 18446744073709551616) : bits BinOp.and IntKind.u64 (f : Int) 9223372036854775808 = ((sgz (fneg f) : Nat) : Int) := by
  have := bits_and_u64_nat f 9223372036854775808 h (by omega)
  rw [and_p63 f h] at this
  exact this

theorem or_add {a b k : Nat} (hb : b < 2 ^ k) (h : a * 2 ^ k + b < 18446744073709551616) : bits BinOp.or IntKind.u64 ((a * 2 ^ k : Nat) : Int) (b : Int) = ((a * 2 ^ k + b : Nat) : Int) := by
  rw [bits_or_u64_nat _ _ (by omega) (by omega), Nat.mul_comm a, Nat.two_pow_add_eq_or_of_lt hb]

theorem or_hidden {a : Nat} (h : a < 4503599627370496) : bits BinOp.or IntKind.u64 (a : Int) 4503599627370496 = ((a + 4503599627370496 : Nat) : Int) := by
  have := or_add (a := 1) (b := a) (k := 52) h (by omega)
  have h2 := bits_or_u64_nat a 4503599627370496 (by omega) (by omega)
  have h3 := bits_or_u64_nat (1 * 2 ^ 52) a (by omega) (by omega)
  rw [h3] at this
  have h4 : bits BinOp.or IntKind.u64 (a : Int) 4503599627370496 = ((a ||| 4503599627370496 : Nat) : Int) := h2
  rw [h4, Nat.or_comm]
  rw [show (1 * 2 ^ 52 : Nat) = 4503599627370496 from rfl] at this
  rw [this]
  congr 1
  omega

theorem or_sign {s : Bool} {a : Nat} (h : a < 9223372036854775808) : bits BinOp.or IntKind.u64 ((sgz s : Nat) : Int) (a : Int) = ((sgz s + a : Nat) : Int) := by
  unfold sgz
  cases s with
  | false =>
    rw [if_neg (by simp), bits_or_u64_nat _ _ (by omega) (by omega), Nat.zero_or, Nat.zero_add]
  | true =>
    rw [if_pos rfl]
    exact or_add (a := 1) (b := a) (k := 63) h (by omega)
theorem or_sign' {s : Bool} {a : Nat} (h : a < 9223372036854775808) : bits BinOp.or IntKind.u64 (a : Int) ((sgz s : Nat) : Int) = ((sgz s + a : Nat) : Int) := by
  rw [← or_sign h, bits_or_u64_nat _ _ (by omega) (by have := sgz_le s; omega), bits_or_u64_nat _ _ (by have := sgz_le s; omega) (by omega), Nat.or_comm]

theorem or_one {a : Nat} (h : a < 18446744073709551616) : bits BinOp.or IntKind.u64 (a : Int) 1 = ((a / 2 * 2 + 1 : Nat) : Int) := by
  have h2 : bits BinOp.or IntKind.u64 (a : Int) 1 = ((a ||| 1 : Nat) : Int) := bits_or_u64_nat a 1 h (by omega)
  rw [h2]
  congr 1
  have e : a = 2 ^ 1 * (a / 2) ||| a % 2 := by
    rw [← Nat.two_pow_add_eq_or_of_lt (i := 1) (by omega)]; omega
  have h3 : 2 ^ 1 * (a / 2) ||| 1 = 2 ^ 1 * (a / 2) + 1 := (Nat.two_pow_add_eq_or_of_lt (i := 1) (b := 1) (by omega) (a / 2)).symm
  have h4 : a ||| 1 = 2 ^ 1 * (a / 2) ||| 1 := by
    conv => lhs; rw [e]
    rw [Nat.or_assoc]
    congr 1
    have : a % 2 = 0 ∨ a % 2 = 1 := by omega
    rcases this with h | h <;> rw [h] <;> rfl
  rw [h4, h3]
  omega

theorem fneg_test {f : Nat} (h : f < 18446744073709551616) : fneg f = f.testBit 63 := by
  unfold fneg
  rw [Nat.testBit_eq_decide_div_mod_eq]
  exact decide_eq_decide.2 (by omega)

theorem fneg_xor {a b : Nat} (ha : a < 18446744073709551616) (hb : b < 18446744073709551616) : fneg (a ^^^ b) = (fneg a != fneg b) := by
  have hx : a ^^^ b < 2 ^ 64 := Nat.xor_lt_two_pow (by omega) (by omega)
  rw [fneg_test (by omega), fneg_test ha, fneg_test hb, Nat.testBit_xor]

theorem fmag_xor_sign {f : Nat} (h : f < 18446744073709551616) : f ^^^ 9223372036854775808 = sgz (!fneg f) + fmag f := by
  have hm : f % 2 ^ 63 < 2 ^ 63 := Nat.mod_lt _ (by decide)
  by_cases hf : 9223372036854775808 ≤ f
  · have e1 : fneg f = true := by unfold fneg; simpa using hf
    obtain ⟨m, rfl⟩ : ∃ m, f = 9223372036854775808 + m := ⟨f - 9223372036854775808, by omega⟩
    have hm : m < 2 ^ 63 := by omega
    have e2 := Nat.two_pow_add_eq_or_of_lt hm 1
    have e3 : (9223372036854775808 + m) ^^^ 9223372036854775808 = m := by
      apply Nat.eq_of_testBit_eq
      intro i
      rw [show (9223372036854775808 : Nat) + m = 2 ^ 63 * 1 + m from rfl, e2, Nat.testBit_xor, Nat.testBit_or, show 2 ^ 63 * 1 = 2 ^ 63 from rfl, show (9223372036854775808 : Nat) = 2 ^ 63 from rfl, Nat.testBit_two_pow]
      by_cases hi : 63 = i
      · subst hi; rw [Nat.testBit_lt_two_pow hm]; rfl
      · simp [hi]
    rw [e3, e1]
    unfold sgz fmag
    simp
    omega
  · have e1 : fneg f = false := by unfold fneg; simpa using hf
    have hm : f < 2 ^ 63 := by omega
    have e2 := Nat.two_pow_add_eq_or_of_lt hm 1
    have e3 : f ^^^ 9223372036854775808 = 2 ^ 63 * 1 + f := by
      apply Nat.eq_of_testBit_eq
      intro i
      rw [e2, Nat.testBit_xor, Nat.testBit_or, show 2 ^ 63 * 1 = 2 ^ 63 from rfl, show (9223372036854775808 : Nat) = 2 ^ 63 from rfl, Nat.testBit_two_pow]
      by_cases hi : 63 = i
      · subst hi; rw [Nat.testBit_lt_two_pow hm]; rfl
      · simp [hi]
    rw [e3, e1]
    unfold sgz fmag
    simp
    omega
theorem xor_sign {f : Nat} (h : f < 18446744073709551616) : bits BinOp.xor IntKind.u64 (f : Int) 9223372036854775808 = ((sgz (!fneg f) + fmag f : Nat) : Int) := by
  have := bits_xor_u64_nat f 9223372036854775808 h (by omega)
  rw [fmag_xor_sign h] at this
  exact this
end Go.Proofs.YtjohpdobnedilaaGreatDoor

/- The contracts of math/bits for 64-bit words, at this program. -/
namespace Go.Proofs
open Go.Shelf
def Tryz.lays134_ren : Go.Shelf.Ren := ⟨fun | 129 => 189 | 134 => 149 | n => n, fun | 3 => 3 | 4 => 4 | 5 => 5 | 9 => 9 | 46 => 72 | 53 => 22 | n => n, fun | n => n⟩
theorem Tryz.lays134 : Go.Proofs.Lays.n134 Tryz.prog Tryz.lays134_ren := {
  mixed := by kernel_rfl
  f129 := Tryz.func189.trans (congrArg some (by kernel_rfl))
  f134 := Tryz.func149.trans (congrArg some (by kernel_rfl))
  t3 := Tryz.underlying3
  a3 := Tryz.isAgg3
  z3 := Tryz.sizeOf3
  v3 := Tryz.zeroValue3
  t4 := Tryz.underlying4
  a4 := Tryz.isAgg4
  z4 := Tryz.sizeOf4
  v4 := Tryz.zeroValue4
  t5 := Tryz.underlying5
  a5 := Tryz.isAgg5
  z5 := Tryz.sizeOf5
  v5 := Tryz.zeroValue5
  t9 := Tryz.underlying9
  a9 := Tryz.isAgg9
  z9 := Tryz.sizeOf9
  v9 := Tryz.zeroValue9
  t46 := Tryz.underlying72
  a46 := Tryz.isAgg72
  z46 := Tryz.sizeOf72
  v46 := Tryz.zeroValue72
  t53 := Tryz.underlying22
  a53 := Tryz.isAgg22
  z53 := Tryz.sizeOf22
  v53 := Tryz.zeroValue22 }
theorem Tryz.bits_LeadingZeros64 (x : Int) (w : World) (h0 : 0 ≤ x) (h1 : x ≤ 18446744073709551615) :
    Calls Tryz.prog 149 #[.int .u64 x] w fun e w' => e = .returned (.int .i64 (64 - (Lib.bitLen x.toNat : Int))) ∧ w' = w := Any.bits_LeadingZeros64 Tryz.lays134 x w h0 h1
def Tryz.lays264_ren : Go.Shelf.Ren := ⟨fun | 264 => 214 | n => n, fun | 46 => 72 | 53 => 22 | n => n, fun | n => n⟩
theorem Tryz.lays264 : Go.Proofs.Lays.n264 Tryz.prog Tryz.lays264_ren := {
  mixed := by kernel_rfl
  f264 := Tryz.func214.trans (congrArg some (by kernel_rfl))
  t46 := Tryz.underlying72
  a46 := Tryz.isAgg72
  z46 := Tryz.sizeOf72
  v46 := Tryz.zeroValue72
  t53 := Tryz.underlying22
  a53 := Tryz.isAgg22
  z53 := Tryz.sizeOf22
  v53 := Tryz.zeroValue22 }
theorem Tryz.bits_Mul64 (x y : Nat) (hx : x < 18446744073709551616) (hy : y < 18446744073709551616) (w : World) :
    Calls Tryz.prog 214 #[.int .u64 x, .int .u64 y] w fun e w' => e = .returned (.tuple #[.int .u64 ((x * y / 18446744073709551616 : Nat) : Int), .int .u64 ((x * y % 18446744073709551616 : Nat) : Int)]) ∧ w' = w := Any.bits_Mul64 Tryz.lays264 x y hx hy w
def Tryz.lays7_25_ren : Go.Shelf.Ren := ⟨fun | 25 => 234 | n => n, fun | 22 => 22 | n => n, fun | n => n⟩
theorem Tryz.lays7_25 : Go.Proofs.Lays7.n25 Tryz.prog Tryz.lays7_25_ren := {
  mixed := by kernel_rfl
  f25 := Tryz.func234.trans (congrArg some (by kernel_rfl))
  t22 := Tryz.underlying22
  a22 := Tryz.isAgg22
  z22 := Tryz.sizeOf22
  v22 := Tryz.zeroValue22
  i22 := by kernel_rfl }
def Tryz.lays7_26_ren : Go.Shelf.Ren := ⟨fun | 26 => 235 | n => n, fun | 22 => 22 | n => n, fun | n => n⟩
theorem Tryz.lays7_26 : Go.Proofs.Lays7.n26 Tryz.prog Tryz.lays7_26_ren := {
  mixed := by kernel_rfl
  f26 := Tryz.func235.trans (congrArg some (by kernel_rfl))
  t22 := Tryz.underlying22
  a22 := Tryz.isAgg22
  z22 := Tryz.sizeOf22
  v22 := Tryz.zeroValue22
  i22 := by kernel_rfl }
theorem Tryz.bits_Add64 (x y c : Nat) (hc : c ≤ 1) (w : World) :
    (callFunc 234 #[.int .u64 x, .int .u64 y, .int .u64 c]).run Tryz.prog w =
      .ok (.value (.tuple #[.int .u64 (((x + y + c) % 18446744073709551616 : Nat) : Int), .int .u64 (((x + y + c) / 18446744073709551616 : Nat) : Int)])) w := Any7.bits_Add64 Tryz.lays7_25 x y c hc w
theorem Tryz.bits_Sub64 (x y b : Nat) (hb : b ≤ 1) (w : World) :
    (callFunc 235 #[.int .u64 x, .int .u64 y, .int .u64 b]).run Tryz.prog w =
      .ok (.value (.tuple #[.int .u64 (((x + 18446744073709551616 - y - b) % 18446744073709551616 : Nat) : Int), .int .u64 ((if x < y + b then 1 else 0 : Nat) : Int)])) w := Any7.bits_Sub64 Tryz.lays7_26 x y b hb w
end Go.Proofs

/- A number of package float in a block of its own. -/
namespace Go.Proofs.YtjohpdobnedilaaGreatDoor
open Go.RowKit

/-- block g holds a number with these parts, in a block of the call's own -/
def NBox (W : World) (g : Nat) (hi lo e : Int) (t : Bool) : Prop := W.heap[g]? = some (.cells #[.int .u64 hi, .int .u64 lo, .int .i64 e, .bool t] 68 (0, 0))

section
variable {W w w' : World} {g : Nat} {hi lo e : Int} {t : Bool}
theorem NBox.c0 (h : NBox W g hi lo e t) : W.cell? ⟨g, 0, none⟩ = some (.int .u64 hi) := by rw [cell_of_row W g 0 _ _ _ h]; rfl
theorem NBox.c1 (h : NBox W g hi lo e t) : W.cell? ⟨g, 1, none⟩ = some (.int .u64 lo) := by rw [cell_of_row W g 1 _ _ _ h]; rfl
theorem NBox.c2 (h : NBox W g hi lo e t) : W.cell? ⟨g, 2, none⟩ = some (.int .i64 e) := by rw [cell_of_row W g 2 _ _ _ h]; rfl
theorem NBox.c3 (h : NBox W g hi lo e t) : W.cell? ⟨g, 3, none⟩ = some (.bool t) := by rw [cell_of_row W g 3 _ _ _ h]; rfl
theorem NBox.f (h : NBox W g hi lo e t) (o : Nat) : W.frozen? ⟨g, o, none⟩ = false := by
  unfold NBox at h; simp [World.frozen?, h]
theorem NBox.lt (h : NBox w g hi lo e t) : g < w.heap.size := lt_of_cell h.c0
theorem NBox.kept {B : Nat} (h : NBox w g hi lo e t) (hb : Below B w w') (hg : g < B) : NBox w' g hi lo e t := by
  unfold NBox; rw [hb.block g hg]; exact h
theorem NBox.below (h : NBox w g hi lo e t) (hb : Below w.heap.size w w') : NBox w' g hi lo e t := h.kept hb h.lt
theorem NBox.only {k : Nat} (h : NBox w g hi lo e t) (ho : Only k w w') (hne : g ≠ k) : NBox w' g hi lo e t := by
  unfold NBox; rw [ho.block g hne]; exact h
end

theorem NBox.new (w : World) (hi lo e : Int) (t : Bool) : NBox (w.alloc (.cells #[.int .u64 hi, .int .u64 lo, .int .i64 e, .bool t] 68)) w.heap.size hi lo e t := heap_alloc_new w _

theorem nbox_new (w : World) (hi lo e : Int) (t : Bool) :
    ∃ W, W = w.alloc (.cells #[.int .u64 hi, .int .u64 lo, .int .i64 e, .bool t] 68) ∧ Below w.heap.size w W ∧ NBox W w.heap.size hi lo e t ∧ w.heap.size + 1 ≤ W.heap.size :=
  ⟨_, rfl, (Below.refl _ w).alloc (Nat.le_refl _) _, NBox.new w hi lo e t, by simp⟩

theorem NBox.stored {w : World} {g : Nat} {hi lo e : Int} {t : Bool} (h : NBox w g hi lo e t) (hi' lo' e' : Int) (t' : Bool) :
    NBox ((((w.setCell ⟨g, 0, none⟩ (.int .u64 hi')).setCell ⟨g, 1, none⟩ (.int .u64 lo')).setCell ⟨g, 2, none⟩ (.int .i64 e')).setCell ⟨g, 3, none⟩ (.bool t')) g hi' lo' e' t' := by
  unfold NBox at h ⊢
  simp [World.setCell, Array.getElem?_modify, h]
theorem NBox.stored012 {w : World} {g : Nat} {hi lo e : Int} {t : Bool} (h : NBox w g hi lo e t) (hi' lo' e' : Int) :
    NBox (((w.setCell ⟨g, 0, none⟩ (.int .u64 hi')).setCell ⟨g, 1, none⟩ (.int .u64 lo')).setCell ⟨g, 2, none⟩ (.int .i64 e')) g hi' lo' e' t := by
  unfold NBox at h ⊢
  simp [World.setCell, Array.getElem?_modify, h]
theorem NBox.drew {w : World} {g : Nat} {hi lo e : Int} {t : Bool} (h : NBox w g hi lo e t) : NBox w.drew g hi lo e t := h
theorem only_nset3 (w : World) (g : Nat) (u v x : Value) : Only g w (((w.setCell ⟨g, 0, none⟩ u).setCell ⟨g, 1, none⟩ v).setCell ⟨g, 2, none⟩ x) := (((Only.refl g w).setCell _ _).setCell _ _).setCell _ _
theorem only_nset4 (w : World) (g : Nat) (u v x y : Value) : Only g w ((((w.setCell ⟨g, 0, none⟩ u).setCell ⟨g, 1, none⟩ v).setCell ⟨g, 2, none⟩ x).setCell ⟨g, 3, none⟩ y) := ((((Only.refl g w).setCell _ _).setCell _ _).setCell _ _).setCell _ _

/-- two numbers boxed -/
theorem boxes_nn (w : World) (hi lo e : Int) (t : Bool) (hi' lo' e' : Int) (t' : Bool) :
    ∃ W, W = (w.alloc (.cells #[.int .u64 hi, .int .u64 lo, .int .i64 e, .bool t] 68)).alloc (.cells #[.int .u64 hi', .int .u64 lo', .int .i64 e', .bool t'] 68) ∧ Below w.heap.size w W ∧ NBox W w.heap.size hi lo e t ∧ NBox W (w.heap.size + 1) hi' lo' e' t' ∧ w.heap.size + 2 ≤ W.heap.size := by
  refine ⟨_, rfl, ((Below.refl _ w).alloc (Nat.le_refl _) _).alloc (by simp) _, ?_, ?_, by simp⟩
  · exact (NBox.new w hi lo e t).below ((Below.refl _ _).alloc (Nat.le_refl _) _)
  · have := NBox.new (w.alloc (.cells #[.int .u64 hi, .int .u64 lo, .int .i64 e, .bool t] 68)) hi' lo' e' t'
    simpa using this
/-- three numbers boxed -/
theorem boxes_nnn (w : World) (hi lo e : Int) (t : Bool) (hi' lo' e' : Int) (t' : Bool) (hi2 lo2 e2 : Int) (t2 : Bool) :
    ∃ W, W = ((w.alloc (.cells #[.int .u64 hi, .int .u64 lo, .int .i64 e, .bool t] 68)).alloc (.cells #[.int .u64 hi', .int .u64 lo', .int .i64 e', .bool t'] 68)).alloc (.cells #[.int .u64 hi2, .int .u64 lo2, .int .i64 e2, .bool t2] 68) ∧ Below w.heap.size w W ∧
      NBox W w.heap.size hi lo e t ∧ NBox W (w.heap.size + 1) hi' lo' e' t' ∧ NBox W (w.heap.size + 1 + 1) hi2 lo2 e2 t2 ∧ w.heap.size + 3 ≤ W.heap.size := by
  refine ⟨_, rfl, (((Below.refl _ w).alloc (Nat.le_refl _) _).alloc (by simp) _).alloc (by simp; omega) _, ?_, ?_, ?_, by simp⟩
  · exact (NBox.new w hi lo e t).below (((Below.refl _ _).alloc (Nat.le_refl _) _).alloc (by simp) _)
  · have := (NBox.new (w.alloc (.cells #[.int .u64 hi, .int .u64 lo, .int .i64 e, .bool t] 68)) hi' lo' e' t').below ((Below.refl _ _).alloc (Nat.le_refl _) (.cells #[.int .u64 hi2, .int .u64 lo2, .int .i64 e2, .bool t2] 68))
    simpa using this
  · have := NBox.new ((w.alloc (.cells #[.int .u64 hi, .int .u64 lo, .int .i64 e, .bool t] 68)).alloc (.cells #[.int .u64 hi', .int .u64 lo', .int .i64 e', .bool t'] 68)) hi2 lo2 e2 t2
    simpa using this
end Go.Proofs.YtjohpdobnedilaaGreatDoor

/- What the small functions of package float do: tests, signs, order, neighbours. -/
namespace Go.Proofs.YtjohpdobnedilaaGreatDoor
open Go.RowKit

theorem ret_bool {a b : Bool} (h : a = b) : Ending.returned (.bool a) = .returned (.bool b) := by rw [h]
theorem ret_int {k : IntKind} {a b : Int} (h : a = b) : Ending.returned (.int k a) = .returned (.int k b) := by rw [h]

def nanB (f : Nat) : Bool := decide (9218868437227405312 < fmag f)
def infB (f : Nat) : Bool := decide (fmag f = 9218868437227405312)
def zeroB (f : Nat) : Bool := decide (fmag f = 0)
/-- the kind of a float -/
def fkind (f : Nat) : Int := if fmag f = 0 then 0 else if fmag f < 9218868437227405312 then 1 else if fmag f = 9218868437227405312 then 2 else 3
def fnegF (f : Nat) : Nat := if nanB f then 9221120237041090560 else sgz (!fneg f) + fmag f
def fabsF (f : Nat) : Nat := if nanB f then 9221120237041090560 else fmag f
/-- the place in the order -/
def frank (f : Nat) : Int := if fneg f then -(fmag f : Int) else (fmag f : Int)
def fupF (f : Nat) : Nat := if nanB f then 9221120237041090560 else if f = 9218868437227405312 then f else if zeroB f then 1 else if fneg f then f - 1 else f + 1
def fdownF (f : Nat) : Nat := fnegF (fupF (fnegF f))

set_option maxRecDepth 100000 in
theorem isNaN_any (f : Nat) (hf : f < 18446744073709551616) (w : World) :
    Calls Tryz.prog 68 #[.int .u64 (f : Int)] w fun e w' => e = .returned (.bool (nanB f)) ∧ w = w' := by
  have ha := andNot_sign hf
  have hm := fmag_lt f
  unfold nanB
  generalize fmag f = m at *
  go_enter Tryz.func68, Tryz.ntmps68
  go_wp2
  go_ret
  exact ⟨ret_bool (by first | rfl | exact decide_eq_decide.2 (by omega) | (rw [Bool.eq_iff_iff]; simp; try omega)), rfl⟩

set_option maxRecDepth 100000 in
theorem isInf_any (f : Nat) (hf : f < 18446744073709551616) (w : World) :
    Calls Tryz.prog 88 #[.int .u64 (f : Int)] w fun e w' => e = .returned (.bool (infB f)) ∧ w = w' := by
  have ha := andNot_sign hf
  have hm := fmag_lt f
  unfold infB
  generalize fmag f = m at *
  go_enter Tryz.func88, Tryz.ntmps88
  go_wp2
  go_ret
  exact ⟨ret_bool (by first | rfl | exact decide_eq_decide.2 (by omega) | (rw [Bool.eq_iff_iff]; simp; try omega)), rfl⟩

set_option maxRecDepth 100000 in
theorem isZero_any (f : Nat) (hf : f < 18446744073709551616) (w : World) :
    Calls Tryz.prog 73 #[.int .u64 (f : Int)] w fun e w' => e = .returned (.bool (zeroB f)) ∧ w = w' := by
  have ha := andNot_sign hf
  have hm := fmag_lt f
  unfold zeroB
  generalize fmag f = m at *
  go_enter Tryz.func73, Tryz.ntmps73
  go_wp2
  go_ret
  exact ⟨ret_bool (by first | rfl | exact decide_eq_decide.2 (by omega) | (rw [Bool.eq_iff_iff]; simp; try omega)), rfl⟩

set_option maxRecDepth 100000 in
theorem isNegative_any (f : Nat) (hf : f < 18446744073709551616) (w : World) :
    Calls Tryz.prog 78 #[.int .u64 (f : Int)] w fun e w' => e = .returned (.bool (fneg f)) ∧ w = w' := by
  have ha := and_sign hf
  cases hn : fneg f
  all_goals
    rw [hn] at ha
    clear hn
    unfold sgz at ha
    simp only [if_true, Bool.false_eq_true, if_false] at ha
    go_enter Tryz.func78, Tryz.ntmps78
    go_wp2
    go_ret
    exact ⟨ret_bool (by first | rfl | decide | simp), rfl⟩

set_option maxRecDepth 100000 in
theorem signOf_any (f : Nat) (hf : f < 18446744073709551616) (w : World) :
    Calls Tryz.prog 90 #[.int .u64 (f : Int)] w fun e w' => e = .returned (.int .u64 ((sgz (fneg f) : Nat) : Int)) ∧ w = w' := by
  have ha := and_sign hf
  generalize sgz (fneg f) = z at *
  go_enter Tryz.func90, Tryz.ntmps90
  go_wp2
  go_ret
  exact ⟨rfl, rfl⟩

set_option maxRecDepth 100000 in
theorem cancelled_any (mode : Int) (w : World) :
    Calls Tryz.prog 183 #[.int .i64 mode] w fun e w' => e = .returned (.int .u64 ((cancel mode : Nat) : Int)) ∧ w = w' := by
  unfold cancel
  by_cases h : mode = 1
  all_goals
    go_enter Tryz.func183, Tryz.ntmps183
    go_wp2
    go_ret
    exact ⟨ret_int (by first | rfl | (rw [if_pos h]; rfl) | (rw [if_neg h]; rfl)), rfl⟩

theorem fkind_cases (f : Nat) : fmag f = 0 ∧ fkind f = 0 ∨ fmag f ≠ 0 ∧ fmag f < 9218868437227405312 ∧ fkind f = 1 ∨ fmag f = 9218868437227405312 ∧ fkind f = 2 ∨ 9218868437227405312 < fmag f ∧ fkind f = 3 := by
  unfold fkind
  by_cases h0 : fmag f = 0
  · left; exact ⟨h0, if_pos h0⟩
  · right
    by_cases h1 : fmag f < 9218868437227405312
    · left; exact ⟨h0, h1, by rw [if_neg h0, if_pos h1]⟩
    · right
      by_cases h2 : fmag f = 9218868437227405312
      · left; exact ⟨h2, by rw [if_neg h0, if_neg h1, if_pos h2]⟩
      · right; exact ⟨by omega, by rw [if_neg h0, if_neg h1, if_neg h2]⟩

set_option maxRecDepth 100000 in
theorem kind_any (f : Nat) (hf : f < 18446744073709551616) (w : World) :
    Calls Tryz.prog 16 #[.int .u64 (f : Int)] w fun e w' => e = .returned (.int .i64 (fkind f)) ∧ w = w' := by
  have ha := andNot_sign hf
  have hc := fkind_cases f
  generalize fkind f = k at *
  generalize fmag f = m at *
  rcases hc with ⟨h0, rfl⟩ | ⟨h0, h1, rfl⟩ | ⟨h0, rfl⟩ | ⟨h0, rfl⟩
  · have b0 : ((m : Int) == 0) = true := by simp; omega
    clear h0
    go_enter Tryz.func16, Tryz.ntmps16
    go_wp2
    go_ret
    exact ⟨rfl, rfl⟩
  · have b0 : ((m : Int) == 0) = false := by simp; omega
    have b1 : (m : Int) < 9218868437227405312 := by omega
    clear h0 h1
    go_enter Tryz.func16, Tryz.ntmps16
    go_wp2
    go_ret
    exact ⟨rfl, rfl⟩
  · have b0 : ((m : Int) == 0) = false := by simp; omega
    have b1 : ¬ (m : Int) < 9218868437227405312 := by omega
    have b2 : ((m : Int) == 9218868437227405312) = true := by rw [beq_iff_eq]; omega
    clear h0
    go_enter Tryz.func16, Tryz.ntmps16
    go_wp2
    go_ret
    exact ⟨rfl, rfl⟩
  · have b0 : ((m : Int) == 0) = false := by simp; omega
    have b1 : ¬ (m : Int) < 9218868437227405312 := by omega
    have b2 : ((m : Int) == 9218868437227405312) = false := by rw [beq_eq_false_iff_ne]; omega
    clear h0
    go_enter Tryz.func16, Tryz.ntmps16
    go_wp2
    go_ret
    exact ⟨rfl, rfl⟩

def finB (f : Nat) : Bool := decide (fmag f < 9218868437227405312)
set_option maxRecDepth 100000 in
theorem isFinite_any (f : Nat) (hf : f < 18446744073709551616) (w : World) :
    Calls Tryz.prog 18 #[.int .u64 (f : Int)] w fun e w' => e = .returned (.bool (finB f)) ∧ w = w' := by
  have ha := andNot_sign hf
  have hb : finB f = decide ((fmag f : Int) < 9218868437227405312) := decide_eq_decide.2 (by omega)
  rw [hb]
  clear hb
  generalize fmag f = m at *
  go_enter Tryz.func18, Tryz.ntmps18
  go_wp2
  go_ret
  exact ⟨rfl, rfl⟩

set_option maxRecDepth 100000 in
theorem negF_any (f : Nat) (hf : f < 18446744073709551616) (w : World) :
    Calls Tryz.prog 20 #[.int .u64 (f : Int)] w fun e w' => e = .returned (.int .u64 ((fnegF f : Nat) : Int)) ∧ w = w' := by
  have ha := xor_sign hf
  unfold fnegF
  generalize sgz (!fneg f) + fmag f = v at *
  cases hn : nanB f
  all_goals
    have HN := Lib.hid hn
    clear hn
    go_enter Tryz.func20, Tryz.ntmps20
    go_wp2_with (go_at_call 68; refine (isNaN_any f hf _).mono ?_; rw [HN.out]; rintro e w' ⟨rfl, rfl⟩)
    go_ret
    exact ⟨rfl, rfl⟩

set_option maxRecDepth 100000 in
theorem absF_any (f : Nat) (hf : f < 18446744073709551616) (w : World) :
    Calls Tryz.prog 22 #[.int .u64 (f : Int)] w fun e w' => e = .returned (.int .u64 ((fabsF f : Nat) : Int)) ∧ w = w' := by
  have ha := andNot_sign hf
  unfold fabsF
  generalize fmag f = v at *
  cases hn : nanB f
  all_goals
    have HN := Lib.hid hn
    clear hn
    go_enter Tryz.func22, Tryz.ntmps22
    go_wp2_with (go_at_call 68; refine (isNaN_any f hf _).mono ?_; rw [HN.out]; rintro e w' ⟨rfl, rfl⟩)
    go_ret
    exact ⟨rfl, rfl⟩

set_option maxRecDepth 100000 in
theorem rank_any (f : Nat) (hf : f < 18446744073709551616) (w : World) :
    Calls Tryz.prog 70 #[.int .u64 (f : Int)] w fun e w' => e = .returned (.int .i64 (frank f)) ∧ w = w' := by
  have ha := andNot_sign hf
  have hm := fmag_lt f
  unfold frank
  generalize fmag f = m at *
  cases hn : fneg f
  all_goals
    have HN := Lib.hid hn
    clear hn
    go_enter Tryz.func70, Tryz.ntmps70
    go_wp2_with (go_at_call 78; refine (isNegative_any f hf _).mono ?_; rw [HN.out]; rintro e w' ⟨rfl, rfl⟩)
    go_ret
    exact ⟨ret_int (by first | rfl | simp | (simp; omega)), rfl⟩

theorem fup_cases {f : Nat} (hf : f < 18446744073709551616) : nanB f = true ∧ fupF f = 9221120237041090560 ∨ nanB f = false ∧ (f = 9218868437227405312 ∧ fupF f = f ∨ f ≠ 9218868437227405312 ∧
    (zeroB f = true ∧ fupF f = 1 ∨ zeroB f = false ∧ (fneg f = true ∧ 1 ≤ f ∧ fupF f = f - 1 ∨ fneg f = false ∧ f + 1 < 18446744073709551616 ∧ fupF f = f + 1))) := by
  have hp := f_parts hf
  have hm := fmag_lt f
  unfold fupF
  cases hn : nanB f
  · right
    refine ⟨rfl, ?_⟩
    have hnn : ¬ 9218868437227405312 < fmag f := of_decide_eq_false hn
    by_cases hi : f = 9218868437227405312
    · left; exact ⟨hi, by rw [if_neg (by simp), if_pos hi]⟩
    · right
      refine ⟨hi, ?_⟩
      cases hz : zeroB f
      · right
        refine ⟨rfl, ?_⟩
        have hzz : fmag f ≠ 0 := of_decide_eq_false hz
        cases hs : fneg f
        · right
          rw [hs] at hp
          unfold sgz at hp
          exact ⟨rfl, by simp at hp; omega, by rw [if_neg (by simp), if_neg hi, if_neg (by simp), if_neg (by simp)]⟩
        · left
          rw [hs] at hp
          unfold sgz at hp
          exact ⟨rfl, by simp at hp; omega, by rw [if_neg (by simp), if_neg hi, if_neg (by simp), if_pos rfl]⟩
      · left; exact ⟨rfl, by rw [if_neg (by simp), if_neg hi, if_pos rfl]⟩
  · left; exact ⟨rfl, if_pos rfl⟩

set_option maxRecDepth 100000 in
theorem upF_any (f : Nat) (hf : f < 18446744073709551616) (w : World) :
    Calls Tryz.prog 27 #[.int .u64 (f : Int)] w fun e w' => e = .returned (.int .u64 ((fupF f : Nat) : Int)) ∧ w = w' := by
  have hc := fup_cases hf
  generalize fupF f = u at *
  rcases hc with ⟨hn, rfl⟩ | ⟨hn, ⟨hi, rfl⟩ | ⟨hi, ⟨hz, rfl⟩ | ⟨hz, ⟨hs, h1, rfl⟩ | ⟨hs, h1, rfl⟩⟩⟩⟩
  · have HN := Lib.hid hn
    clear hn
    go_enter Tryz.func27, Tryz.ntmps27
    go_wp2_with (go_at_call 68; refine (isNaN_any f hf _).mono ?_; rw [HN.out]; rintro e w' ⟨rfl, rfl⟩)
    go_ret
    exact ⟨rfl, rfl⟩
  · have HN := Lib.hid hn
    have b0 : ((u : Int) == 9218868437227405312) = true := by rw [beq_iff_eq]; omega
    clear hn hi
    go_enter Tryz.func27, Tryz.ntmps27
    go_wp2_with (go_at_call 68; refine (isNaN_any u hf _).mono ?_; rw [HN.out]; rintro e w' ⟨rfl, rfl⟩)
    go_ret
    exact ⟨rfl, rfl⟩
  · have HN := Lib.hid hn
    have HZ := Lib.hid hz
    have b0 : ((f : Int) == 9218868437227405312) = false := by rw [beq_eq_false_iff_ne]; omega
    clear hn hi hz
    go_enter Tryz.func27, Tryz.ntmps27
    go_wp2_with (first | (go_at_call 68; refine (isNaN_any f hf _).mono ?_; rw [HN.out]; rintro e w' ⟨rfl, rfl⟩) | (go_at_call 73; refine (isZero_any f hf _).mono ?_; rw [HZ.out]; rintro e w' ⟨rfl, rfl⟩))
    go_ret
    exact ⟨rfl, rfl⟩
  · have HN := Lib.hid hn
    have HZ := Lib.hid hz
    have HS := Lib.hid hs
    have b0 : ((f : Int) == 9218868437227405312) = false := by rw [beq_eq_false_iff_ne]; omega
    have b1 : (0 : Int) ≤ (f : Int) - 1 := by omega
    have b2 : (((f - 1 : Nat) : Nat) : Int) = (f : Int) - 1 := by omega
    have B2 := Lib.hid b2
    clear hn hi hz hs h1 b2
    go_enter Tryz.func27, Tryz.ntmps27
    go_wp2_with (first | (go_at_call 68; refine (isNaN_any f hf _).mono ?_; rw [HN.out]; rintro e w' ⟨rfl, rfl⟩) | (go_at_call 73; refine (isZero_any f hf _).mono ?_; rw [HZ.out]; rintro e w' ⟨rfl, rfl⟩) | (go_at_call 78; refine (isNegative_any f hf _).mono ?_; rw [HS.out]; rintro e w' ⟨rfl, rfl⟩))
    go_ret
    exact ⟨ret_int (by rw [B2.out]), rfl⟩
  · have HN := Lib.hid hn
    have HZ := Lib.hid hz
    have HS := Lib.hid hs
    have b0 : ((f : Int) == 9218868437227405312) = false := by rw [beq_eq_false_iff_ne]; omega
    have b1 : (f : Int) + 1 < 18446744073709551616 := by omega
    have b2 : (((f + 1 : Nat) : Nat) : Int) = (f : Int) + 1 := by omega
    have B2 := Lib.hid b2
    clear hn hi hz hs h1 b2
    go_enter Tryz.func27, Tryz.ntmps27
    go_wp2_with (first | (go_at_call 68; refine (isNaN_any f hf _).mono ?_; rw [HN.out]; rintro e w' ⟨rfl, rfl⟩) | (go_at_call 73; refine (isZero_any f hf _).mono ?_; rw [HZ.out]; rintro e w' ⟨rfl, rfl⟩) | (go_at_call 78; refine (isNegative_any f hf _).mono ?_; rw [HS.out]; rintro e w' ⟨rfl, rfl⟩))
    go_ret
    exact ⟨ret_int (by rw [B2.out]), rfl⟩

theorem fnegF_lt {f : Nat} : fnegF f < 18446744073709551616 := by
  unfold fnegF
  have := fmag_lt f
  have := sgz_le (!fneg f)
  split <;> omega
theorem fupF_lt {f : Nat} (h : f < 18446744073709551616) : fupF f < 18446744073709551616 := by
  unfold fupF
  have h1 := f_parts h
  have h2 := fmag_lt f
  by_cases hn : nanB f = true
  · rw [if_pos hn]; omega
  · rw [if_neg hn]
    have h3 : ¬ 9218868437227405312 < fmag f := of_decide_eq_false (Bool.not_eq_true _ ▸ hn)
    by_cases hi : f = 9218868437227405312
    · rw [if_pos hi]; exact h
    · rw [if_neg hi]
      split
      · omega
      · split
        · omega
        · have h4 := sgz_le (fneg f); omega

set_option maxRecDepth 100000 in
theorem downF_any (f : Nat) (hf : f < 18446744073709551616) (w : World) :
    Calls Tryz.prog 29 #[.int .u64 (f : Int)] w fun e w' => e = .returned (.int .u64 ((fdownF f : Nat) : Int)) ∧ w = w' := by
  unfold fdownF
  have h1 := @fnegF_lt f
  have c1 := negF_any f hf w
  generalize fnegF f = a at *
  have h2 := fupF_lt h1
  have c2 := upF_any a h1 w
  generalize fupF a = b at *
  have c3 := negF_any b h2 w
  generalize fnegF b = c at *
  have C1 := Lib.hid c1
  have C2 := Lib.hid c2
  have C3 := Lib.hid c3
  clear c1 c2 c3
  go_enter Tryz.func29, Tryz.ntmps29
  go_wp2_with fail
  refine C1.out.mono ?_
  rintro e w' ⟨rfl, rfl⟩
  go_wp2_with fail
  refine C2.out.mono ?_
  rintro e w' ⟨rfl, rfl⟩
  go_wp2_with fail
  refine C3.out.mono ?_
  rintro e w' ⟨rfl, rfl⟩
  go_wp2
  go_ret
  exact ⟨rfl, rfl⟩
end Go.Proofs.YtjohpdobnedilaaGreatDoor

/- What float.split and number.normal do. -/
namespace Go.Proofs.YtjohpdobnedilaaGreatDoor
open Go.RowKit

set_option maxRecDepth 100000 in
set_option maxHeartbeats 1000000 in
theorem fsplit_any (f : Nat) (hf : f < 18446744073709551616) (w : World) :
    Calls Tryz.prog 74 #[.int .u64 (f : Int)] w fun e w' => e = .returned (.agg #[.int .u64 0, .int .u64 ((sig f : Nat) : Int), .int .i64 (-1074 + (fsh f : Int)), .bool false]) ∧ Ext w w' := by
  have ha := andNot_sign hf
  have hb := and_frac hf
  have hm := fmag_lt f
  have hfr : f % 4503599627370496 = fmag f % 4503599627370496 := by unfold fmag; omega
  rw [hfr] at hb
  have hd : ((fmag f : Nat) : Int) / 4503599627370496 = ((ffld f : Nat) : Int) := by unfold ffld; omega
  have hq : ffld f < 2048 := by unfold ffld; omega
  have ho := or_hidden (a := fmag f % 4503599627370496) (by omega)
  by_cases h0 : ffld f = 0
  · have e1 : sig f = fmag f % 4503599627370496 := by unfold sig; rw [if_pos h0]; unfold ffld at h0; omega
    have e2 : fsh f = 0 := by unfold fsh; omega
    rw [e1, e2]
    rw [h0] at hd
    clear e1 e2 h0 ho hq hfr
    generalize fmag f % 4503599627370496 = r at *
    generalize fmag f = m at *
    go_enter Tryz.func74, Tryz.ntmps74
    go_wp2
    exact bodyPost_ret (v := .agg #[.int .u64 0, .int .u64 r, .int .i64 (-1074), .bool false]) (by simp [results, Tryz.results74, go_sem]) rfl ⟨rfl, (Below.refl _ _).alloc (Nat.le_refl _) _⟩
  · have e1 : sig f = fmag f % 4503599627370496 + 4503599627370496 := by unfold sig; rw [if_neg h0]
    obtain ⟨k, hk⟩ : ∃ k, ffld f = k + 1 := ⟨ffld f - 1, by omega⟩
    have e2 : fsh f = k := by unfold fsh; omega
    rw [e1, e2]
    rw [hk] at hd hq
    clear e1 e2 h0 hfr hk
    generalize fmag f % 4503599627370496 + 4503599627370496 = z at *
    generalize fmag f % 4503599627370496 = r at *
    generalize fmag f = m at *
    obtain ⟨q, hqq⟩ : ∃ q : Int, ((k + 1 : Nat) : Int) = q := ⟨_, rfl⟩
    rw [hqq] at hd
    have q0 : 0 < q := by omega
    have q1 : q < 2048 := by omega
    have q2 : -1074 + (k : Int) = -1074 + (q - 1) := by omega
    have Q2 := Lib.hid q2
    clear q2 hqq hq
    go_enter Tryz.func74, Tryz.ntmps74
    go_wp2
    exact bodyPost_ret (v := .agg #[.int .u64 0, .int .u64 z, .int .i64 (-1074 + (q - 1)), .bool false]) (by simp [results, Tryz.results74, go_sem]) rfl ⟨by rw [Q2.out], (Below.refl _ _).alloc (Nat.le_refl _) _⟩

theorem cast_pow2 (k : Nat) : ((2 ^ k : Nat) : Int) = 2 ^ k := by rw [Int.natCast_pow]; rfl
theorem cast_mulpow (a k : Nat) : ((a * 2 ^ k : Nat) : Int) = (a : Int) * 2 ^ k := by rw [Int.natCast_mul, cast_pow2]
theorem cast_divpow (a k : Nat) : ((a / 2 ^ k : Nat) : Int) = (a : Int) / 2 ^ k := by rw [← cast_pow2]; exact Int.natCast_ediv _ _
theorem cast_modpow (a k M : Nat) : ((a * 2 ^ k % M : Nat) : Int) = (a : Int) * 2 ^ k % (M : Int) := by rw [Int.natCast_emod, cast_mulpow]
theorem wrap_nat {a : Nat} (h : a < 18446744073709551616) : IntKind.u64.wrap (a : Int) = (a : Int) := by rw [IntKind.wrap_u64]; omega
theorem norm_words {hi lo k : Nat} (hlo : lo < 18446744073709551616) (hk : k ≤ 64) (hb : hi < 2 ^ (64 - k)) :
    (hi * 2 ^ k + lo / 2 ^ (64 - k)) * 18446744073709551616 + lo * 2 ^ k % 18446744073709551616 = (hi * 18446744073709551616 + lo) * 2 ^ k ∧ hi * 2 ^ k + lo / 2 ^ (64 - k) < 18446744073709551616 ∧ lo / 2 ^ (64 - k) < 2 ^ k ∧ hi * 2 ^ k < 18446744073709551616 := by
  have e : (18446744073709551616 : Nat) = 2 ^ (64 - k) * 2 ^ k := by rw [← Nat.pow_add, show 64 - k + k = 64 by omega]
  have hp : 0 < 2 ^ (64 - k) := Nat.pow_pos (by omega)
  have hq : 0 < 2 ^ k := Nat.pow_pos (by omega)
  have e1 : lo * 2 ^ k / 18446744073709551616 = lo / 2 ^ (64 - k) := by rw [e, Nat.mul_div_mul_right _ _ hq]
  have e2 : lo / 2 ^ (64 - k) < 2 ^ k := by rw [Nat.div_lt_iff_lt_mul hp, Nat.mul_comm, ← e]; exact hlo
  have e3 : hi * 2 ^ k + 2 ^ k ≤ 18446744073709551616 := by
    have := Nat.mul_le_mul_right (2 ^ k) (show hi + 1 ≤ 2 ^ (64 - k) from hb)
    rwa [Nat.add_mul, Nat.one_mul, ← e] at this
  have e4 := Nat.div_add_mod (lo * 2 ^ k) 18446744073709551616
  rw [e1] at e4
  refine ⟨?_, by omega, e2, by omega⟩
  rw [Nat.add_mul, Nat.add_mul (hi * 18446744073709551616), Nat.mul_right_comm hi (2 ^ k), Nat.add_assoc, Nat.mul_comm (lo / 2 ^ (64 - k)), e4]

theorem lz_any {x k : Nat} (h0 : 2 ^ (63 - k) ≤ x) (h1 : x < 2 ^ (64 - k)) (hk : k ≤ 63) (w : World) :
    Calls Tryz.prog 149 #[.int .u64 x] w fun e w' => e = .returned (.int .i64 (k : Int)) ∧ w = w' := by
  have hx : x < 2 ^ 64 := Nat.lt_of_lt_of_le h1 (Nat.pow_le_pow_right (by omega) (by omega))
  have hx0 : x ≠ 0 := by have := Nat.pow_pos (n := 63 - k) (show 0 < 2 by omega); omega
  obtain ⟨l, hl, l1, l2⟩ := bitLen_spec x hx0 hx
  have e : l = 63 - k := by
    have a1 := (Nat.pow_lt_pow_iff_right (show 1 < 2 by omega)).1 (Nat.lt_of_le_of_lt l1 h1)
    have a2 := (Nat.pow_lt_pow_iff_right (show 1 < 2 by omega)).1 (Nat.lt_of_le_of_lt h0 l2)
    omega
  refine (Tryz.bits_LeadingZeros64 (x : Int) w (by omega) (by omega)).mono ?_
  rintro e w' ⟨rfl, rfl⟩
  refine ⟨?_, rfl⟩
  rw [Int.toNat_natCast, hl]
  congr 2
  omega

set_option maxRecDepth 100000 in
set_option maxHeartbeats 2000000 in
theorem fnormal_hi (hi lo k : Nat) (e : Int) (t : Bool) (h0 : 2 ^ (63 - k) ≤ hi) (h1 : hi < 2 ^ (64 - k)) (hk : k ≤ 63) (hlo : lo < 18446744073709551616) (he0 : -1000000000000 ≤ e) (he1 : e ≤ 1000000000000) (w : World) :
    Calls Tryz.prog 75 #[.agg #[.int .u64 (hi : Int), .int .u64 (lo : Int), .int .i64 e, .bool t]] w fun r w' => r = .returned (.agg #[.int .u64 ((hi * 2 ^ k + lo / 2 ^ (64 - k) : Nat) : Int), .int .u64 ((lo * 2 ^ k % 18446744073709551616 : Nat) : Int), .int .i64 (e - k), .bool t]) ∧ Ext w w' := by
  obtain ⟨-, hb, hc, hd⟩ := norm_words hlo (show k ≤ 64 by omega) h1
  have hi0 : ((hi : Int) == 0) = false := by
    have := Nat.pow_pos (n := 63 - k) (show 0 < 2 by omega)
    rw [beq_eq_false_iff_ne]; omega
  have CL := Lib.hid (lz_any h0 h1 hk)
  clear h0 h1
  have hs1 : IntKind.u64.wrap ((hi : Int) * 2 ^ k) = ((hi * 2 ^ k : Nat) : Int) := by rw [← cast_mulpow]; exact wrap_nat hd
  have hs2 : (lo : Int) / 2 ^ (64 - k) = ((lo / 2 ^ (64 - k) : Nat) : Int) := (cast_divpow _ _).symm
  have hs3 := or_add hc hb
  have hs4 : IntKind.u64.wrap ((lo : Int) * 2 ^ k) = ((lo * 2 ^ k % 18446744073709551616 : Nat) : Int) := by rw [IntKind.wrap_u64]; exact (cast_modpow lo k 18446744073709551616).symm
  have hs5 : (lo : Int) * 2 ^ k % 18446744073709551616 = ((lo * 2 ^ k % 18446744073709551616 : Nat) : Int) := (cast_modpow lo k 18446744073709551616).symm
  have hk3 : e - (k : Int) = e - k := rfl
  generalize hi * 2 ^ k + lo / 2 ^ (64 - k) = Y at *
  generalize hi * 2 ^ k = A at *
  generalize lo / 2 ^ (64 - k) = X at *
  generalize lo * 2 ^ k % 18446744073709551616 = Z at *
  clear hc hb hd hk3
  have k0 : (0 : Int) ≤ (k : Int) := by omega
  have k1 : (0 : Int) ≤ 64 - (k : Int) := by omega
  have k2 : (k : Int) ≤ 64 := by omega
  go_enter Tryz.func75, Tryz.ntmps75
  go_upto_region 1 with fail
  obtain ⟨W, hW, hB, hx, hr, hz⟩ := boxes_nn w hi lo e t 0 0 0 false
  rw [← hW]
  clear hW
  generalize hBe : w.heap.size = B at *
  have HBe := Lib.hid hBe
  clear hBe
  have c0 := hx.c0
  have c1 := hx.c1
  have c2 := hx.c2
  have c3 := hx.c3
  have g0 := hx.f 0
  have g1 := hx.f 1
  have g2 := hx.f 2
  have g3 := hx.f 3
  go_wp2_with (refine (CL.out _).mono ?_; rintro e w' ⟨rfl, rfl⟩)
  go_region
  go_upto_region 7 with fail
  obtain ⟨W1, hW1, x1, r1, b1⟩ : ∃ W1, (((W.setCell ⟨B, 0, none⟩ (.int .u64 Y)).setCell ⟨B, 1, none⟩ (.int .u64 Z)).setCell ⟨B, 2, none⟩ (.int .i64 (e - k))).drew = W1 ∧ NBox W1 B Y Z (e - k) t ∧ NBox W1 (B + 1) 0 0 0 false ∧ Below B w W1 :=
    ⟨_, rfl, (hx.stored012 Y Z (e - k)).drew, (hr.only (only_nset3 _ _ _ _ _) (by omega)).drew, (hB.trans ((only_nset3 _ _ _ _ _).below (Nat.le_refl _))).drew⟩
  rw [hW1]
  clear hW1 hx hr hB c0 c1 c2 c3 g0 g1 g2 g3 hz hs1 hs2 hs3 hs4 hs5
  have c0 := x1.c0
  have c1 := x1.c1
  have c2 := x1.c2
  have c3 := x1.c3
  have q0 := r1.c0
  have q1 := r1.c1
  have q2 := r1.c2
  have q3 := r1.c3
  have p0 := r1.f 0
  have p1 := r1.f 1
  have p2 := r1.f 2
  have p3 := r1.f 3
  have z := r1.stored Y Z (e - k) t
  have z0 := z.c0
  have z1 := z.c1
  have z2 := z.c2
  have z3 := z.c3
  have B1 := Lib.hid (b1.trans ((only_nset4 W1 (B + 1) (.int .u64 Y) (.int .u64 Z) (.int .i64 (e - k)) (.bool t)).below (B := B) (by omega)))
  clear z x1 r1 b1
  go_wp2
  refine bodyPost_ret (v := .agg #[.int .u64 Y, .int .u64 Z, .int .i64 (e - k), .bool t]) (by simp [results, Tryz.results75, go_sem, z0, z1, z2, z3]) rfl ⟨rfl, ?_⟩
  show Below _ _ _
  rw [HBe.out]
  exact B1.out

set_option maxRecDepth 100000 in
set_option maxHeartbeats 2000000 in
theorem fnormal_lo (lo k : Nat) (e : Int) (t : Bool) (h0 : 2 ^ (63 - k) ≤ lo) (h1 : lo < 2 ^ (64 - k)) (hk : k ≤ 63) (he0 : -1000000000000 ≤ e) (he1 : e ≤ 1000000000000) (w : World) :
    Calls Tryz.prog 75 #[.agg #[.int .u64 0, .int .u64 (lo : Int), .int .i64 e, .bool t]] w fun r w' => r = .returned (.agg #[.int .u64 ((lo * 2 ^ k : Nat) : Int), .int .u64 0, .int .i64 (e - 64 - k), .bool t]) ∧ Ext w w' := by
  obtain ⟨-, -, -, hd⟩ := norm_words (lo := 0) (by omega) (show k ≤ 64 by omega) h1
  have CL := Lib.hid (lz_any h0 h1 hk)
  clear h0 h1
  have hs1 : IntKind.u64.wrap ((lo : Int) * 2 ^ k) = ((lo * 2 ^ k : Nat) : Int) := by rw [← cast_mulpow]; exact wrap_nat hd
  have hs3 : bits BinOp.or IntKind.u64 ((lo * 2 ^ k : Nat) : Int) 0 = ((lo * 2 ^ k : Nat) : Int) := by
    have := or_add (a := lo) (b := 0) (k := k) (Nat.pow_pos (by omega)) (by omega)
    exact this
  generalize lo * 2 ^ k = A at *
  clear hd
  have k0 : (0 : Int) ≤ (k : Int) := by omega
  have k1 : (0 : Int) ≤ 64 - (k : Int) := by omega
  have k2 : (k : Int) ≤ 64 := by omega
  go_enter Tryz.func75, Tryz.ntmps75
  go_upto_region 1 with fail
  obtain ⟨W, hW, hB, hx, hr, hz⟩ := boxes_nn w 0 lo e t 0 0 0 false
  rw [← hW]
  clear hW
  generalize hBe : w.heap.size = B at *
  have HBe := Lib.hid hBe
  clear hBe
  have c0 := hx.c0
  have c1 := hx.c1
  have c2 := hx.c2
  have c3 := hx.c3
  have g0 := hx.f 0
  have g1 := hx.f 1
  have g2 := hx.f 2
  have g3 := hx.f 3
  go_upto_region 3 with fail
  obtain ⟨W0, hW0, x0, r0, b0⟩ : ∃ W0, ((W.setCell ⟨B, 0, none⟩ (.int .u64 lo)).setCell ⟨B, 1, none⟩ (.int .u64 0)).setCell ⟨B, 2, none⟩ (.int .i64 (e - 64)) = W0 ∧ NBox W0 B lo 0 (e - 64) t ∧ NBox W0 (B + 1) 0 0 0 false ∧ Below B w W0 :=
    ⟨_, rfl, hx.stored012 lo 0 (e - 64), hr.only (only_nset3 _ _ _ _ _) (by omega), hB.trans ((only_nset3 _ _ _ _ _).below (Nat.le_refl _))⟩
  rw [hW0]
  clear hW0 hx hr hB c0 c1 c2 c3 g0 g1 g2 g3
  have c0 := x0.c0
  have c1 := x0.c1
  have c2 := x0.c2
  have c3 := x0.c3
  have g0 := x0.f 0
  have g1 := x0.f 1
  have g2 := x0.f 2
  have g3 := x0.f 3
  go_wp2_with (refine (CL.out _).mono ?_; rintro e w' ⟨rfl, rfl⟩)
  go_region
  go_upto_region 7 with fail
  obtain ⟨W1, hW1, x1, r1, b1⟩ : ∃ W1, (((W0.setCell ⟨B, 0, none⟩ (.int .u64 A)).setCell ⟨B, 1, none⟩ (.int .u64 0)).setCell ⟨B, 2, none⟩ (.int .i64 (e - 64 - k))).drew = W1 ∧ NBox W1 B A 0 (e - 64 - k) t ∧ NBox W1 (B + 1) 0 0 0 false ∧ Below B w W1 :=
    ⟨_, rfl, (x0.stored012 A 0 (e - 64 - k)).drew, (r0.only (only_nset3 _ _ _ _ _) (by omega)).drew, (b0.trans ((only_nset3 _ _ _ _ _).below (Nat.le_refl _))).drew⟩
  rw [hW1]
  clear hW1 x0 r0 b0 c0 c1 c2 c3 g0 g1 g2 g3 hz hs1 hs3
  have c0 := x1.c0
  have c1 := x1.c1
  have c2 := x1.c2
  have c3 := x1.c3
  have q0 := r1.c0
  have q1 := r1.c1
  have q2 := r1.c2
  have q3 := r1.c3
  have p0 := r1.f 0
  have p1 := r1.f 1
  have p2 := r1.f 2
  have p3 := r1.f 3
  have z := r1.stored A 0 (e - 64 - k) t
  have z0 := z.c0
  have z1 := z.c1
  have z2 := z.c2
  have z3 := z.c3
  have B1 := Lib.hid (b1.trans ((only_nset4 W1 (B + 1) (.int .u64 A) (.int .u64 0) (.int .i64 (e - 64 - k)) (.bool t)).below (B := B) (by omega)))
  clear z x1 r1 b1
  go_wp2
  refine bodyPost_ret (v := .agg #[(.int .u64 A), (.int .u64 0), .int .i64 (e - 64 - k), .bool t]) (by simp [results, Tryz.results75, go_sem, z0, z1, z2, z3]) rfl ⟨rfl, ?_⟩
  show Below _ _ _
  rw [HBe.out]
  exact B1.out

/-- a number that is not zero, normalized -/
theorem fnormal_any (hi lo : Nat) (e : Int) (t : Bool) (h : hi < 18446744073709551616) (hlo : lo < 18446744073709551616) (h0 : hi * 18446744073709551616 + lo ≠ 0) (he0 : -1000000000000 ≤ e) (he1 : e ≤ 1000000000000) (w : World) :
    Calls Tryz.prog 75 #[.agg #[.int .u64 (hi : Int), .int .u64 (lo : Int), .int .i64 e, .bool t]] w fun r w' => ∃ H L k : Nat, r = .returned (.agg #[.int .u64 (H : Int), .int .u64 (L : Int), .int .i64 (e - k), .bool t]) ∧
      H * 18446744073709551616 + L = (hi * 18446744073709551616 + lo) * 2 ^ k ∧ 9223372036854775808 ≤ H ∧ H < 18446744073709551616 ∧ L < 18446744073709551616 ∧ k ≤ 127 ∧ Ext w w' := by
  by_cases hh : hi = 0
  · subst hh
    obtain ⟨l, -, l1, l2⟩ := bitLen_spec lo (by omega) (by omega)
    have hl : l < 64 := (Nat.pow_lt_pow_iff_right (show 1 < 2 by omega)).1 (Nat.lt_of_le_of_lt l1 hlo)
    obtain ⟨k, hk⟩ : ∃ k, l = 63 - k ∧ k ≤ 63 := ⟨63 - l, by omega, by omega⟩
    obtain ⟨rfl, hk⟩ := hk
    rw [show 63 - k + 1 = 64 - k by omega] at l2
    obtain ⟨-, -, -, hd⟩ := norm_words (lo := 0) (by omega) (show k ≤ 64 by omega) l2
    refine (fnormal_lo lo k e t l1 l2 hk he0 he1 w).mono fun r w' ⟨hr, hw⟩ => ⟨lo * 2 ^ k, 0, 64 + k, ?_, ?_, ?_, hd, by omega, by omega, hw⟩
    · rw [hr, show e - 64 - (k : Int) = e - ((64 + k : Nat) : Int) by push_cast; omega]
      rfl
    · rw [Nat.zero_mul, Nat.zero_add, Nat.add_zero, Nat.pow_add, Nat.mul_comm (2 ^ 64), ← Nat.mul_assoc]
    · have := Nat.mul_le_mul_right (2 ^ k) l1
      rwa [← Nat.pow_add, show 63 - k + k = 63 by omega] at this
  · obtain ⟨l, -, l1, l2⟩ := bitLen_spec hi hh (by omega)
    have hl : l < 64 := (Nat.pow_lt_pow_iff_right (show 1 < 2 by omega)).1 (Nat.lt_of_le_of_lt l1 h)
    obtain ⟨k, hk⟩ : ∃ k, l = 63 - k ∧ k ≤ 63 := ⟨63 - l, by omega, by omega⟩
    obtain ⟨rfl, hk⟩ := hk
    rw [show 63 - k + 1 = 64 - k by omega] at l2
    obtain ⟨n1, n2, n3, n4⟩ := norm_words hlo (show k ≤ 64 by omega) l2
    refine (fnormal_hi hi lo k e t l1 l2 hk hlo he0 he1 w).mono fun r w' ⟨hr, hw⟩ => ⟨_, _, k, hr, n1, ?_, n2, Nat.mod_lt _ (by omega), by omega, hw⟩
    have := Nat.mul_le_mul_right (2 ^ k) l1
    rw [← Nat.pow_add, show 63 - k + k = 63 by omega] at this
    exact Nat.le_trans this (Nat.le_add_right _ _)
end Go.Proofs.YtjohpdobnedilaaGreatDoor

/- What number.down does: it moves the last bits into the tail. -/
namespace Go.Proofs.YtjohpdobnedilaaGreatDoor
open Go.RowKit

/-- h 2^64 + l, with a tail t, moved down by k: the bits that are left, and the tail -/
structure Dn64 (N K : Nat) (t0 : Bool) (h l : Nat) (t : Bool) (k : Nat) : Prop where
  q : (h * 18446744073709551616 + l) / 2 ^ k = N / 2 ^ K
  r : (t || decide ((h * 18446744073709551616 + l) % 2 ^ k ≠ 0)) = (t0 || decide (N % 2 ^ K ≠ 0))

theorem word_split {h l k : Nat} (hl : l < 18446744073709551616) :
    (h * 18446744073709551616 + l) / 2 ^ (k + 64) = h / 2 ^ k ∧ ((h * 18446744073709551616 + l) % 2 ^ (k + 64) ≠ 0 ↔ l ≠ 0 ∨ h % 2 ^ k ≠ 0) := by
  have e : (2 : Nat) ^ (k + 64) = 18446744073709551616 * 2 ^ k := by rw [Nat.pow_add, Nat.mul_comm]
  have e1 : (h * 18446744073709551616 + l) / 18446744073709551616 = h := by omega
  have e2 : (h * 18446744073709551616 + l) % 18446744073709551616 = l := by omega
  rw [e]
  refine ⟨by rw [← Nat.div_div_eq_div_mul, e1], ?_⟩
  rw [Nat.mod_mul, e1, e2]
  generalize h % 2 ^ k = r
  omega

theorem Dn64.step {N K h l k : Nat} {t0 t : Bool} (d : Dn64 N K t0 h l t (k + 64)) (hl : l < 18446744073709551616) : Dn64 N K t0 0 h (t || decide (l ≠ 0)) k := by
  obtain ⟨h1, h2⟩ := word_split (h := h) (k := k) hl
  have h3 : decide ((h * 18446744073709551616 + l) % 2 ^ (k + 64) ≠ 0) = (decide (l ≠ 0) || decide (h % 2 ^ k ≠ 0)) := by
    rw [← Bool.decide_or]; exact decide_eq_decide.2 h2
  refine ⟨?_, ?_⟩
  · rw [Nat.zero_mul, Nat.zero_add, ← h1]; exact d.q
  · rw [Nat.zero_mul, Nat.zero_add, ← d.r, h3, Bool.or_assoc]

/-- the last step, by less than a word -/
theorem Dn64.last {N K h l k : Nat} {t0 t : Bool} (d : Dn64 N K t0 h l t k) (_hh : h < 18446744073709551616) (hl : l < 18446744073709551616) (hk : k < 64) :
    h / 2 ^ k * 18446744073709551616 + (h * 2 ^ (64 - k) % 18446744073709551616 + l / 2 ^ k) = N / 2 ^ K ∧ (t || decide (l * 2 ^ (64 - k) % 18446744073709551616 ≠ 0)) = (t0 || decide (N % 2 ^ K ≠ 0)) ∧
    l / 2 ^ k < 2 ^ (64 - k) ∧ h * 2 ^ (64 - k) % 18446744073709551616 = h % 2 ^ k * 2 ^ (64 - k) ∧ h * 2 ^ (64 - k) % 18446744073709551616 + l / 2 ^ k < 18446744073709551616 := by
  have e : (18446744073709551616 : Nat) = 2 ^ k * 2 ^ (64 - k) := by rw [← Nat.pow_add, show k + (64 - k) = 64 by omega]
  have hp : 0 < 2 ^ k := Nat.pow_pos (by omega)
  have hq : 0 < 2 ^ (64 - k) := Nat.pow_pos (by omega)
  have r1 := rest_eq (h := h) (d := k) (by omega)
  have r2 := rest_eq (h := l) (d := k) (by omega)
  have l1 : l / 2 ^ k < 2 ^ (64 - k) := by rw [Nat.div_lt_iff_lt_mul hp, Nat.mul_comm, ← e]; exact hl
  have m1 := Nat.mod_lt h hp
  have l2 : h % 2 ^ k * 2 ^ (64 - k) + 2 ^ (64 - k) ≤ 18446744073709551616 := by
    have := Nat.mul_le_mul_right (2 ^ (64 - k)) (show h % 2 ^ k + 1 ≤ 2 ^ k from m1)
    rwa [Nat.add_mul, Nat.one_mul, ← e] at this
  have dm := Nat.div_add_mod h (2 ^ k)
  have key : h * 18446744073709551616 + l = 2 ^ k * (h / 2 ^ k * 18446744073709551616 + h % 2 ^ k * 2 ^ (64 - k)) + l := by
    congr 1
    have a1 : 2 ^ k * (h % 2 ^ k * 2 ^ (64 - k)) = h % 2 ^ k * 18446744073709551616 := by
      rw [Nat.mul_left_comm, ← e]
    rw [Nat.mul_add, a1, ← Nat.mul_assoc, ← Nat.add_mul, dm]
  have d1 : (h * 18446744073709551616 + l) / 2 ^ k = h / 2 ^ k * 18446744073709551616 + h % 2 ^ k * 2 ^ (64 - k) + l / 2 ^ k := by
    rw [key, Nat.mul_add_div hp]
  have d2 : (h * 18446744073709551616 + l) % 2 ^ k = l % 2 ^ k := by rw [key, Nat.mul_add_mod]
  refine ⟨by rw [r1, ← Nat.add_assoc, ← d1]; exact d.q, ?_, l1, r1, by rw [r1]; omega⟩
  rw [← d.r, d2]
  congr 1
  refine decide_eq_decide.2 ?_
  rw [r2]
  constructor
  · intro h1 h2; exact h1 (by rw [h2, Nat.zero_mul])
  · intro h1 h2; rcases Nat.mul_eq_zero.1 h2 with h3 | h3 <;> omega

theorem Dn64.start (N : Nat) {k : Nat} (t : Bool) {h l : Nat} (hN : N = h * 18446744073709551616 + l) (hh : h < 18446744073709551616) (hl : l < 18446744073709551616) : Dn64 N k t h l t (min k 128) := by
  by_cases h1 : k ≤ 128
  · rw [Nat.min_eq_left h1, hN]; exact ⟨rfl, rfl⟩
  · rw [Nat.min_eq_right (by omega)]
    have hb : N < 2 ^ 128 := by rw [hN]; omega
    have h2 : 2 ^ 128 ≤ 2 ^ k := Nat.pow_le_pow_right (by omega) (by omega)
    refine ⟨?_, ?_⟩
    · rw [← hN, Nat.div_eq_of_lt hb, Nat.div_eq_of_lt (by omega)]
    · rw [← hN, Nat.mod_eq_of_lt hb, Nat.mod_eq_of_lt (by omega)]

theorem or_comm64 {a b : Nat} (ha : a < 18446744073709551616) (hb : b < 18446744073709551616) : bits BinOp.or IntKind.u64 (a : Int) (b : Int) = bits BinOp.or IntKind.u64 (b : Int) (a : Int) := by
  rw [bits_or_u64_nat _ _ ha hb, bits_or_u64_nat _ _ hb ha, Nat.or_comm]

theorem NBox.stored2 {w : World} {g : Nat} {hi lo e : Int} {t : Bool} (h : NBox w g hi lo e t) (e' : Int) : NBox (w.setCell ⟨g, 2, none⟩ (.int .i64 e')) g hi lo e' t := by
  unfold NBox at h ⊢
  simp [World.setCell, Array.getElem?_modify, h]
theorem NBox.stored3 {w : World} {g : Nat} {hi lo e : Int} {t : Bool} (h : NBox w g hi lo e t) (t' : Bool) : NBox (w.setCell ⟨g, 3, none⟩ (.bool t')) g hi lo e t' := by
  unfold NBox at h ⊢
  simp [World.setCell, Array.getElem?_modify, h]
theorem NBox.stored01 {w : World} {g : Nat} {hi lo e : Int} {t : Bool} (h : NBox w g hi lo e t) (hi' lo' : Int) : NBox ((w.setCell ⟨g, 0, none⟩ (.int .u64 hi')).setCell ⟨g, 1, none⟩ (.int .u64 lo')) g hi' lo' e t := by
  unfold NBox at h ⊢
  simp [World.setCell, Array.getElem?_modify, h]
theorem NBox.stored10 {w : World} {g : Nat} {hi lo e : Int} {t : Bool} (h : NBox w g hi lo e t) (hi' lo' : Int) : NBox ((w.setCell ⟨g, 1, none⟩ (.int .u64 lo')).setCell ⟨g, 0, none⟩ (.int .u64 hi')) g hi' lo' e t := by
  unfold NBox at h ⊢
  simp [World.setCell, Array.getElem?_modify, h]

set_option maxRecDepth 100000 in
set_option maxHeartbeats 4000000 in
theorem fdown_any (hi lo K : Nat) (e : Int) (t : Bool) (hh : hi < 18446744073709551616) (hl : lo < 18446744073709551616) (he0 : -1000000000000 ≤ e) (he1 : e ≤ 1000000000000) (hK : K ≤ 1000000000000) (w : World) :
    Calls Tryz.prog 215 #[.agg #[.int .u64 (hi : Int), .int .u64 (lo : Int), .int .i64 e, .bool t], .int .i64 (K : Int)] w fun r w' => ∃ H L : Nat, r = .returned (.agg #[.int .u64 (H : Int), .int .u64 (L : Int), .int .i64 (e + K), .bool (t || decide ((hi * 18446744073709551616 + lo) % 2 ^ K ≠ 0))]) ∧
      H * 18446744073709551616 + L = (hi * 18446744073709551616 + lo) / 2 ^ K ∧ H < 18446744073709551616 ∧ L < 18446744073709551616 ∧ Ext w w' := by
  have hst := Dn64.start (hi * 18446744073709551616 + lo) (k := K) t rfl hh hl
  obtain ⟨kk, hkk⟩ : ∃ kk, min K 128 = kk := ⟨_, rfl⟩
  have hk1 : kk ≤ 128 := by omega
  have hk2 : min (K : Int) 128 = (kk : Int) := by omega
  rw [hkk] at hst
  clear hkk
  obtain ⟨N, hN⟩ : ∃ N, hi * 18446744073709551616 + lo = N := ⟨_, rfl⟩
  rw [hN] at hst
  rw [hN]
  clear hN
  obtain ⟨E, hE⟩ : ∃ E : Int, e + K = E := ⟨_, rfl⟩
  have hst := Lib.hid hst
  go_enter Tryz.func215, Tryz.ntmps215
  go_upto_region 1 with fail
  obtain ⟨W, hW, hB, hx, hr, hz⟩ := boxes_nn w hi lo e t 0 0 0 false
  rw [← hW]
  clear hW
  generalize hBe : w.heap.size = B at *
  have HBe := Lib.hid hBe
  clear hBe
  have c2 := hx.c2
  have g2 := hx.f 2
  go_upto_region 3 with fail
  have x1 := hx.stored2 E
  have r1 := hr.only (only_set1 W B 2 (.int .i64 E)) (by omega)
  have b1 := hB.trans ((only_set1 W B 2 (.int .i64 E)).below (Nat.le_refl _))
  have HE := Lib.hid hE
  generalize W.setCell ⟨B, 2, none⟩ (.int .i64 E) = W1 at *
  clear hx hr hB hz c2 g2 hE hk2
  go_loopw [1] (fun kv wx => ∃ (h l : Nat) (tt : Bool) (kk : Nat), kv = .int .i64 kk ∧ kk ≤ 128 ∧ h < 18446744073709551616 ∧ l < 18446744073709551616 ∧ Dn64 N K t h l tt kk ∧ NBox wx B h l E tt ∧ NBox wx (B + 1) 0 0 0 false ∧ Below B w wx) (fun kv _ => (intOf kv).toNat)
  case atStart => exact ⟨hi, lo, t, kk, rfl, hk1, hh, hl, hst.out, x1, r1, b1⟩
  case round =>
    clear x1 r1 b1 hst hk1 hh hl
    obtain ⟨h, l, tt, kk, rfl, hk1, hh, hl, hd, x1, r1, b1⟩ := hrel
    have c0 := x1.c0
    have c1 := x1.c1
    have c2 := x1.c2
    have c3 := x1.c3
    have g0 := x1.f 0
    have g1 := x1.f 1
    have g2 := x1.f 2
    have g3 := x1.f 3
    by_cases h64 : 64 ≤ kk
    · obtain ⟨j, rfl⟩ : ∃ j, kk = j + 64 := ⟨kk - 64, by omega⟩
      have hd := hd.step hl
      have HD := Lib.hid hd
      clear hd
      have h64 : (64 : Int) ≤ ((j + 64 : Nat) : Int) := by omega
      have hj : ((j + 64 : Nat) : Int) - 64 = (j : Int) := by omega
      obtain ⟨q, hq⟩ : ∃ q : Int, ((j + 64 : Nat) : Int) = q := ⟨_, rfl⟩
      rw [hq] at h64 hj
      rw [hq]
      have HQ := Lib.hid hq
      clear hq
      obtain ⟨tn, htn⟩ : ∃ tn, (tt || decide (l ≠ 0)) = tn := ⟨_, rfl⟩
      rw [htn] at HD
      cases tt with
      | true =>
        obtain rfl : true = tn := by rw [← htn]; rfl
        clear htn
        go_wp2
        go_roundw
        case rel => exact ⟨0, h, true, j, by first | rfl | rw [hj], by omega, by omega, hh, HD.out, (x1.stored3 true).stored01 0 h, (r1.only (only_set1 _ B 3 _) (by omega)).only (only_set2 _ B _ _) (by omega), (b1.trans ((only_set1 _ B 3 _).below (Nat.le_refl _))).trans ((only_set2 _ B _ _).below (Nat.le_refl _))⟩
        case measure => have := HQ.out; simp [intOf] <;> omega
      | false =>
        by_cases hl0 : l = 0
        · obtain rfl : false = tn := by rw [← htn, hl0]; rfl
          clear htn
          have hl0 : ((l : Int) != 0) = false := by rw [bne_eq_false_iff_eq]; omega
          go_wp2
          go_roundw
          case rel => exact ⟨0, h, false, j, by first | rfl | rw [hj], by omega, by omega, hh, HD.out, (x1.stored3 false).stored01 0 h, (r1.only (only_set1 _ B 3 _) (by omega)).only (only_set2 _ B _ _) (by omega), (b1.trans ((only_set1 _ B 3 _).below (Nat.le_refl _))).trans ((only_set2 _ B _ _).below (Nat.le_refl _))⟩
          case measure => have := HQ.out; simp [intOf] <;> omega
        · obtain rfl : true = tn := by rw [← htn]; simp [hl0]
          clear htn
          have hl0 : ((l : Int) != 0) = true := by rw [bne_iff_ne]; omega
          go_wp2
          go_roundw
          case rel => exact ⟨0, h, true, j, by first | rfl | rw [hj], by omega, by omega, hh, HD.out, (x1.stored3 true).stored01 0 h, (r1.only (only_set1 _ B 3 _) (by omega)).only (only_set2 _ B _ _) (by omega), (b1.trans ((only_set1 _ B 3 _).below (Nat.le_refl _))).trans ((only_set2 _ B _ _).below (Nat.le_refl _))⟩
          case measure => have := HQ.out; simp [intOf] <;> omega
    · obtain ⟨d1, d2, d3, d4, d5⟩ := hd.last hh hl (by omega)
      have D1 := Lib.hid d1
      have D2 := Lib.hid d2
      have hs1 : IntKind.u64.wrap ((l : Int) * 2 ^ (64 - kk)) = ((l * 2 ^ (64 - kk) % 18446744073709551616 : Nat) : Int) := by rw [IntKind.wrap_u64]; exact (cast_modpow l (64 - kk) 18446744073709551616).symm
      have hs2 : IntKind.u64.wrap ((h : Int) * 2 ^ (64 - kk)) = ((h * 2 ^ (64 - kk) % 18446744073709551616 : Nat) : Int) := by rw [IntKind.wrap_u64]; exact (cast_modpow h (64 - kk) 18446744073709551616).symm
      have hs6 : ((l : Int) * 2 ^ (64 - kk)) % 18446744073709551616 = ((l * 2 ^ (64 - kk) % 18446744073709551616 : Nat) : Int) := (cast_modpow l (64 - kk) 18446744073709551616).symm
      have hs3 : (l : Int) / 2 ^ kk = ((l / 2 ^ kk : Nat) : Int) := (cast_divpow _ _).symm
      have hs4 : (h : Int) / 2 ^ kk = ((h / 2 ^ kk : Nat) : Int) := (cast_divpow _ _).symm
      have hs5 : bits BinOp.or IntKind.u64 ((l / 2 ^ kk : Nat) : Int) ((h * 2 ^ (64 - kk) % 18446744073709551616 : Nat) : Int) = ((h * 2 ^ (64 - kk) % 18446744073709551616 + l / 2 ^ kk : Nat) : Int) := by
        rw [or_comm64 (by omega) (by omega), d4]
        exact or_add d3 (by rw [← d4]; exact d5)
      have hq : h / 2 ^ kk < 18446744073709551616 := Nat.lt_of_le_of_lt (Nat.div_le_self _ _) hh
      generalize l * 2 ^ (64 - kk) % 18446744073709551616 = Z at *
      generalize h * 2 ^ (64 - kk) % 18446744073709551616 + l / 2 ^ kk = S at *
      generalize h * 2 ^ (64 - kk) % 18446744073709551616 = Y at *
      generalize l / 2 ^ kk = X at *
      generalize h / 2 ^ kk = Q at *
      clear d1 d2 d3 d4 hd
      have k0 : (0 : Int) ≤ (kk : Int) := by omega
      have k1 : (kk : Int) ≤ 64 := by omega
      have k2 : (0 : Int) ≤ 64 - (kk : Int) := by omega
      have h64 : (kk : Int) < 64 := by omega
      have HQ := Lib.hid hq
      have HS := Lib.hid d5
      have HST := Lib.hid True.intro
      clear hq d5 hst
      cases tt with
      | true =>
        have HTN := Lib.hid (show (true || decide (Z ≠ 0)) = true from rfl)
        go_upto_region 8 with fail
        obtain ⟨W2, hW2, x2, r2, b2⟩ : ∃ W2, _ = W2 ∧ NBox W2 B h l E true ∧ NBox W2 (B + 1) 0 0 0 false ∧ Below B w W2 := ⟨_, rfl, x1.stored3 true, r1.only (only_set1 _ B 3 _) (by omega), b1.trans ((only_set1 _ B 3 _).below (Nat.le_refl _))⟩
        rw [hW2]
        clear hW2 x1 r1 b1 c0 c1 c2 c3 g0 g1 g2 g3
        have c0 := x2.c0
        have c1 := x2.c1
        have c2 := x2.c2
        have c3 := x2.c3
        have g0 := x2.f 0
        have g1 := x2.f 1
        go_region
        go_upto_region 10 with fail
        obtain ⟨W3, hW3, x3, r3, b3⟩ : ∃ W3, ((W2.setCell ⟨B, 1, none⟩ (.int .u64 S)).setCell ⟨B, 0, none⟩ (.int .u64 Q)).drew = W3 ∧ NBox W3 B Q S E true ∧ NBox W3 (B + 1) 0 0 0 false ∧ Below B w W3 := ⟨_, rfl, (x2.stored10 Q S).drew, (r2.only (((Only.refl B _).setCell _ _).setCell _ _) (by omega)).drew, (b2.trans ((((Only.refl B _).setCell _ _).setCell _ _).below (Nat.le_refl _))).drew⟩
        rw [hW3]
        clear hW3 x2 r2 b2 c0 c1 c2 c3 g0 g1
        have c0 := x3.c0
        have c1 := x3.c1
        have c2 := x3.c2
        have c3 := x3.c3
        have q0 := r3.c0
        have q1 := r3.c1
        have q2 := r3.c2
        have q3 := r3.c3
        have p0 := r3.f 0
        have p1 := r3.f 1
        have p2 := r3.f 2
        have p3 := r3.f 3
        have z := r3.stored Q S E true
        have z0 := z.c0
        have z1 := z.c1
        have z2 := z.c2
        have z3 := z.c3
        have B1 := Lib.hid (b3.trans ((only_nset4 W3 (B + 1) (.int .u64 Q) (.int .u64 S) (.int .i64 E) (.bool true)).below (B := B) (by omega)))
        clear z x3 r3 b3
        go_wp2
        refine bodyPost_ret (v := .agg #[.int .u64 Q, .int .u64 S, .int .i64 E, .bool true]) (by simp [results, Tryz.results215, go_sem, z0, z1, z2, z3]) rfl ⟨Q, S, ?_, D1.out, HQ.out, HS.out, ?_⟩
        · rw [HE.out, ← D2.out, HTN.out]
        · show Below _ _ _
          rw [HBe.out]
          exact B1.out
      | false =>
        by_cases hZ : Z = 0
        · have HTN := Lib.hid (show (false || decide (Z ≠ 0)) = false by rw [hZ]; rfl)
          have hZ : ((Z : Int) != 0) = false := by rw [bne_eq_false_iff_eq]; omega
          go_upto_region 8 with fail
          obtain ⟨W2, hW2, x2, r2, b2⟩ : ∃ W2, _ = W2 ∧ NBox W2 B h l E false ∧ NBox W2 (B + 1) 0 0 0 false ∧ Below B w W2 := ⟨_, rfl, x1.stored3 false, r1.only (only_set1 _ B 3 _) (by omega), b1.trans ((only_set1 _ B 3 _).below (Nat.le_refl _))⟩
          rw [hW2]
          clear hW2 x1 r1 b1 c0 c1 c2 c3 g0 g1 g2 g3
          have c0 := x2.c0
          have c1 := x2.c1
          have c2 := x2.c2
          have c3 := x2.c3
          have g0 := x2.f 0
          have g1 := x2.f 1
          go_region
          go_upto_region 10 with fail
          obtain ⟨W3, hW3, x3, r3, b3⟩ : ∃ W3, ((W2.setCell ⟨B, 1, none⟩ (.int .u64 S)).setCell ⟨B, 0, none⟩ (.int .u64 Q)).drew = W3 ∧ NBox W3 B Q S E false ∧ NBox W3 (B + 1) 0 0 0 false ∧ Below B w W3 := ⟨_, rfl, (x2.stored10 Q S).drew, (r2.only (((Only.refl B _).setCell _ _).setCell _ _) (by omega)).drew, (b2.trans ((((Only.refl B _).setCell _ _).setCell _ _).below (Nat.le_refl _))).drew⟩
          rw [hW3]
          clear hW3 x2 r2 b2 c0 c1 c2 c3 g0 g1
          have c0 := x3.c0
          have c1 := x3.c1
          have c2 := x3.c2
          have c3 := x3.c3
          have q0 := r3.c0
          have q1 := r3.c1
          have q2 := r3.c2
          have q3 := r3.c3
          have p0 := r3.f 0
          have p1 := r3.f 1
          have p2 := r3.f 2
          have p3 := r3.f 3
          have z := r3.stored Q S E false
          have z0 := z.c0
          have z1 := z.c1
          have z2 := z.c2
          have z3 := z.c3
          have B1 := Lib.hid (b3.trans ((only_nset4 W3 (B + 1) (.int .u64 Q) (.int .u64 S) (.int .i64 E) (.bool false)).below (B := B) (by omega)))
          clear z x3 r3 b3
          go_wp2
          refine bodyPost_ret (v := .agg #[.int .u64 Q, .int .u64 S, .int .i64 E, .bool false]) (by simp [results, Tryz.results215, go_sem, z0, z1, z2, z3]) rfl ⟨Q, S, ?_, D1.out, HQ.out, HS.out, ?_⟩
          · rw [HE.out, ← D2.out, HTN.out]
          · show Below _ _ _
            rw [HBe.out]
            exact B1.out
        · have HTN := Lib.hid (show (false || decide (Z ≠ 0)) = true by simp [hZ])
          have hZ : ((Z : Int) != 0) = true := by rw [bne_iff_ne]; omega
          go_upto_region 8 with fail
          obtain ⟨W2, hW2, x2, r2, b2⟩ : ∃ W2, _ = W2 ∧ NBox W2 B h l E true ∧ NBox W2 (B + 1) 0 0 0 false ∧ Below B w W2 := ⟨_, rfl, x1.stored3 true, r1.only (only_set1 _ B 3 _) (by omega), b1.trans ((only_set1 _ B 3 _).below (Nat.le_refl _))⟩
          rw [hW2]
          clear hW2 x1 r1 b1 c0 c1 c2 c3 g0 g1 g2 g3
          have c0 := x2.c0
          have c1 := x2.c1
          have c2 := x2.c2
          have c3 := x2.c3
          have g0 := x2.f 0
          have g1 := x2.f 1
          go_region
          go_upto_region 10 with fail
          obtain ⟨W3, hW3, x3, r3, b3⟩ : ∃ W3, ((W2.setCell ⟨B, 1, none⟩ (.int .u64 S)).setCell ⟨B, 0, none⟩ (.int .u64 Q)).drew = W3 ∧ NBox W3 B Q S E true ∧ NBox W3 (B + 1) 0 0 0 false ∧ Below B w W3 := ⟨_, rfl, (x2.stored10 Q S).drew, (r2.only (((Only.refl B _).setCell _ _).setCell _ _) (by omega)).drew, (b2.trans ((((Only.refl B _).setCell _ _).setCell _ _).below (Nat.le_refl _))).drew⟩
          rw [hW3]
          clear hW3 x2 r2 b2 c0 c1 c2 c3 g0 g1
          have c0 := x3.c0
          have c1 := x3.c1
          have c2 := x3.c2
          have c3 := x3.c3
          have q0 := r3.c0
          have q1 := r3.c1
          have q2 := r3.c2
          have q3 := r3.c3
          have p0 := r3.f 0
          have p1 := r3.f 1
          have p2 := r3.f 2
          have p3 := r3.f 3
          have z := r3.stored Q S E true
          have z0 := z.c0
          have z1 := z.c1
          have z2 := z.c2
          have z3 := z.c3
          have B1 := Lib.hid (b3.trans ((only_nset4 W3 (B + 1) (.int .u64 Q) (.int .u64 S) (.int .i64 E) (.bool true)).below (B := B) (by omega)))
          clear z x3 r3 b3
          go_wp2
          refine bodyPost_ret (v := .agg #[.int .u64 Q, .int .u64 S, .int .i64 E, .bool true]) (by simp [results, Tryz.results215, go_sem, z0, z1, z2, z3]) rfl ⟨Q, S, ?_, D1.out, HQ.out, HS.out, ?_⟩
          · rw [HE.out, ← D2.out, HTN.out]
          · show Below _ _ _
            rw [HBe.out]
            exact B1.out
end Go.Proofs.YtjohpdobnedilaaGreatDoor

/- What isRoundedUp and number.round do. -/
namespace Go.Proofs.YtjohpdobnedilaaGreatDoor
open Go.RowKit

theorem fneg_sgz (s : Bool) : fneg (sgz s) = s := by unfold fneg sgz; cases s <;> decide

theorem upc_cases (s : Bool) (mode : Int) (kept rest : Nat) : mode = 1 ∧ upc s mode kept rest = (s && decide (rest ≠ 0)) ∨ mode ≠ 1 ∧ mode = 2 ∧ upc s mode kept rest = (!s && decide (rest ≠ 0)) ∨ mode ≠ 1 ∧ mode ≠ 2 ∧ mode = 3 ∧ upc s mode kept rest = false ∨
    mode ≠ 1 ∧ mode ≠ 2 ∧ mode ≠ 3 ∧ upc s mode kept rest = (decide (9223372036854775808 < rest) || decide (rest = 9223372036854775808) && decide (kept % 2 = 1)) := by
  unfold upc
  by_cases h1 : mode = 1
  · left; exact ⟨h1, if_pos h1⟩
  · right
    by_cases h2 : mode = 2
    · left; exact ⟨h1, h2, by rw [if_neg h1, if_pos h2]⟩
    · right
      by_cases h3 : mode = 3
      · left; exact ⟨h1, h2, h3, by rw [if_neg h1, if_neg h2, if_pos h3]⟩
      · right; exact ⟨h1, h2, h3, by rw [if_neg h1, if_neg h2, if_neg h3]⟩

set_option maxRecDepth 100000 in
set_option maxHeartbeats 2000000 in
theorem roundedUp_any (kept rest : Nat) (s : Bool) (mode : Int) (w : World) :
    Calls Tryz.prog 156 #[.int .u64 (kept : Int), .int .u64 (rest : Int), .int .u64 ((sgz s : Nat) : Int), .int .i64 mode] w fun e w' => e = .returned (.bool (upc s mode kept rest)) ∧ w = w' := by
  have hc := upc_cases s mode kept rest
  have HN := Lib.hid (fun w => isNegative_any (sgz s) (by have := sgz_le s; omega) w)
  rw [fneg_sgz] at HN
  generalize upc s mode kept rest = u at *
  generalize sgz s = z at *
  rcases hc with ⟨rfl, hu⟩ | ⟨h1, rfl, hu⟩ | ⟨h1, h2, rfl, hu⟩ | ⟨h1, h2, h3, hu⟩
  · cases s with
    | false =>
      obtain rfl : u = false := by rw [hu]; rfl
      clear hu
      go_enter Tryz.func156, Tryz.ntmps156
      go_wp2_with (refine (HN.out _).mono ?_; rintro e w' ⟨rfl, rfl⟩)
      go_ret
      exact ⟨rfl, rfl⟩
    | true =>
      obtain ⟨b, hb⟩ : ∃ b, ((rest : Int) != 0) = b := ⟨_, rfl⟩
      obtain rfl : u = b := by
        rw [hu, ← hb]
        by_cases h : rest = 0 <;> simp [h]
      clear hu
      go_enter Tryz.func156, Tryz.ntmps156
      go_wp2_with (refine (HN.out _).mono ?_; rintro e w' ⟨rfl, rfl⟩)
      go_ret
      exact ⟨rfl, rfl⟩
  · cases s with
    | true =>
      obtain rfl : u = false := by rw [hu]; rfl
      clear hu h1
      go_enter Tryz.func156, Tryz.ntmps156
      go_wp2_with (refine (HN.out _).mono ?_; rintro e w' ⟨rfl, rfl⟩)
      go_ret
      exact ⟨rfl, rfl⟩
    | false =>
      obtain ⟨b, hb⟩ : ∃ b, ((rest : Int) != 0) = b := ⟨_, rfl⟩
      obtain rfl : u = b := by
        rw [hu, ← hb]
        by_cases h : rest = 0 <;> simp [h]
      clear hu h1
      go_enter Tryz.func156, Tryz.ntmps156
      go_wp2_with (refine (HN.out _).mono ?_; rintro e w' ⟨rfl, rfl⟩)
      go_ret
      exact ⟨rfl, rfl⟩
  · subst hu
    clear h1 h2
    go_enter Tryz.func156, Tryz.ntmps156
    go_wp2
    go_ret
    exact ⟨rfl, rfl⟩
  · have m1 : (mode == 1) = false := beq_eq_false_iff_ne.2 h1
    have m2 : (mode == 2) = false := beq_eq_false_iff_ne.2 h2
    have m3 : (mode == 3) = false := beq_eq_false_iff_ne.2 h3
    clear h1 h2 h3
    by_cases hr : 9223372036854775808 < rest
    · obtain rfl : u = true := by rw [hu, decide_eq_true hr]; rfl
      clear hu
      have hr : (9223372036854775808 : Int) < (rest : Int) := by omega
      go_enter Tryz.func156, Tryz.ntmps156
      go_wp2
      go_ret
      exact ⟨rfl, rfl⟩
    · rw [decide_eq_false hr, Bool.false_or] at hu
      have hr : ¬ (9223372036854775808 : Int) < (rest : Int) := by omega
      by_cases he : rest = 9223372036854775808
      · have hk : ((kept : Int) % 2 == 1) = u := by
          rw [hu, decide_eq_true he, Bool.true_and, Bool.eq_iff_iff, beq_iff_eq, decide_eq_true_iff]
          omega
        have he : ((rest : Int) == 9223372036854775808) = true := by rw [beq_iff_eq]; omega
        clear hu
        go_enter Tryz.func156, Tryz.ntmps156
        go_wp2
        go_ret
        exact ⟨rfl, rfl⟩
      · obtain rfl : u = false := by rw [hu, decide_eq_false he]; rfl
        have he : ((rest : Int) == 9223372036854775808) = false := by rw [beq_eq_false_iff_ne]; omega
        clear hu
        go_enter Tryz.func156, Tryz.ntmps156
        go_wp2
        go_ret
        exact ⟨rfl, rfl⟩
theorem roundedUp_at {kI rI : Int} {kept rest : Nat} (hk : kI = (kept : Int)) (hr : rI = (rest : Int)) (s : Bool) (mode : Int) {z : Nat} (hz : sgz s = z) (u : Bool) (hu : upc s mode kept rest = u) (w : World) :
    Calls Tryz.prog 156 #[.int .u64 kI, .int .u64 rI, .int .u64 (z : Int), .int .i64 mode] w fun e w' => e = .returned (.bool u) ∧ w = w' := by
  rw [hk, hr, ← hz, ← hu]
  exact roundedUp_any kept rest s mode w

theorem NBox.stored0 {w : World} {g : Nat} {hi lo e : Int} {t : Bool} (h : NBox w g hi lo e t) (hi' : Int) : NBox (w.setCell ⟨g, 0, none⟩ (.int .u64 hi')) g hi' lo e t := by
  unfold NBox at h ⊢
  simp [World.setCell, Array.getElem?_modify, h]

set_option maxRecDepth 100000 in
set_option maxHeartbeats 8000000 in
theorem fround_any (hi lo : Nat) (e : Int) (t : Bool) (s : Bool) (mode : Int) (hh : hi < 18446744073709551616) (hl : lo < 18446744073709551616) (h0 : hi * 18446744073709551616 + lo ≠ 0) (ht : t = true → 2 ^ 53 ≤ hi * 18446744073709551616 + lo) (he0 : -1000000000 ≤ e) (he1 : e ≤ 1000000000) (w : World) :
    Calls Tryz.prog 89 #[.agg #[.int .u64 (hi : Int), .int .u64 (lo : Int), .int .i64 e, .bool t], .int .u64 ((sgz s : Nat) : Int), .int .i64 mode] w fun r w' => r = .returned (.int .u64 ((sgz s + fla s (hi * 18446744073709551616 + lo) e t mode : Nat) : Int)) ∧ Ext w w' := by
  have CN := Lib.hid (fnormal_any hi lo e t hh hl h0 (by omega) (by omega))
  have hsh := fun k => fla_shift s h0 e t mode k ht
  obtain ⟨FL, hFL⟩ : ∃ FL, fla s (hi * 18446744073709551616 + lo) e t mode = FL := ⟨_, rfl⟩
  rw [hFL] at hsh
  rw [hFL]
  have HSH := Lib.hid hsh
  clear hsh hFL
  have hs0 := sgz_le s
  obtain ⟨z, hz⟩ : ∃ z, sgz s = z := ⟨_, rfl⟩
  have HZ := Lib.hid hz
  have hor : ∀ a : Nat, a < 9223372036854775808 → bits BinOp.or IntKind.u64 (z : Int) (a : Int) = ((z + a : Nat) : Int) := fun a h => by rw [← HZ.out]; exact or_sign h
  have HOR := Lib.hid hor
  rw [hz]
  clear hz hor hh hl h0 ht hs0
  go_enter Tryz.func89, Tryz.ntmps89
  go_upto_region 1 with fail
  obtain ⟨W, hW, hB, hx, hzz⟩ := nbox_new w hi lo e t
  rw [← hW]
  clear hW
  generalize hBe : w.heap.size = B at *
  have HBe := Lib.hid hBe
  clear hBe
  have c0 := hx.c0
  have c1 := hx.c1
  have c2 := hx.c2
  have c3 := hx.c3
  go_wp2_with fail
  refine (CN.out _).mono ?_
  rintro r w1 ⟨H, L, k, rfl, hN, hH0, hH1, hL, hk, hE⟩
  clear c0 c1 c2 c3 CN
  have x1 := hx.below hE
  have b1 : Below B w w1 := hB.trans (Below.mono hE (by omega))
  have g0 := x1.f 0
  have g1 := x1.f 1
  have g2 := x1.f 2
  have g3 := x1.f 3
  have c0 := x1.c0
  have c1 := x1.c1
  have c2 := x1.c2
  have c3 := x1.c3
  have hfl := HSH.out k
  rw [← hN] at hfl
  obtain ⟨e2, he2⟩ : ∃ e2 : Int, e - k = e2 := ⟨_, rfl⟩
  rw [he2] at hfl
  have e20 : -1000000127 ≤ e2 := by omega
  have e21 : e2 ≤ 1000000000 := by omega
  have HFLA := Lib.hid hfl
  clear hfl HSH hx hE hN hk hB hzz
  go_upto_region 2 with fail
  clear he2
  obtain ⟨W2, hW2, x2, b2⟩ : ∃ W2, (((w1.setCell ⟨B, 0, none⟩ (.int .u64 H)).setCell ⟨B, 1, none⟩ (.int .u64 L)).setCell ⟨B, 2, none⟩ (.int .i64 e2)).setCell ⟨B, 3, none⟩ (.bool t) = W2 ∧ NBox W2 B H L e2 t ∧ Below B w W2 := ⟨_, rfl, x1.stored H L e2 t, b1.trans ((only_nset4 _ _ _ _ _ _).below (Nat.le_refl _))⟩
  rw [hW2]
  clear hW2 x1 b1 c0 c1 c2 c3 g0 g1 g2 g3
  have c0 := x2.c0
  have c1 := x2.c1
  have c2 := x2.c2
  have c3 := x2.c3
  have g0 := x2.f 0
  have g1 := x2.f 1
  have g2 := x2.f 2
  have g3 := x2.f 3
  obtain ⟨top, htop⟩ : ∃ top : Int, e2 + 128 - 1 = top := ⟨_, rfl⟩
  have HFG := Lib.hid (fun h : (1023 : Int) < e2 + 127 => fla_great s t mode hH0 hH1 hL h)
  have HFL := Lib.hid (fun h : (64 : Int) < max (e2 + 75) (-1074) - e2 - 64 => fla_least s t mode hH0 hH1 hL h)
  have HFM := Lib.hid (fun (d : Nat) (h1 : e2 + 127 ≤ 1023) (h2 : (d : Int) = max (e2 + 75) (-1074) - e2 - 64) (h3 : d ≤ 64) => fla_main s t mode hH0 hH1 hL h1 h2 h3)
  have hst : ∀ b, stick H b < 18446744073709551616 := fun b => by unfold stick; split <;> omega
  obtain ⟨X, hX⟩ : ∃ X, stick H (t || decide (L ≠ 0)) = X := ⟨_, rfl⟩
  have hX1 := hst (t || decide (L ≠ 0))
  rw [hX] at HFM hX1
  have hone := or_one hH1
  clear hst
  rw [HFLA.out] at HFG HFL HFM
  clear HFLA
  cases t with
  | true =>
    obtain rfl : H / 2 * 2 + 1 = X := by rw [← hX]; rfl
    have HX := Lib.hid hX
    clear hX
    generalize H / 2 * 2 + 1 = X at *
    go_upto_region 4 with fail
    have x3 := x2.stored0 X
    have b3 := b2.trans ((only_set1 W2 B 0 (.int .u64 X)).below (Nat.le_refl _))
    generalize W2.setCell ⟨B, 0, none⟩ (.int .u64 X) = W3 at *
    clear x2 b2 c0 c1 c2 c3 g0 g1 g2 g3

    have c0 := x3.c0
    have c1 := x3.c1
    have c2 := x3.c2
    have c3 := x3.c3
    have g0 := x3.f 0
    have B3 := Lib.hid b3
    clear x3 b3
    by_cases hgt : 1023 < top
    · have hmx : max (971 : Int) (-1074) = 971 := by decide
      have HG := Lib.hid (HFG.out (by omega))
      obtain ⟨u, hu⟩ : ∃ u, upc s mode 9007199254740991 18437736874454810624 = u := ⟨_, rfl⟩
      rw [hu] at HG
      have HR := Lib.hid (fun w => roundedUp_at (kI := 9007199254740991) (rI := 18437736874454810624) (by rfl) (by rfl) s mode HZ.out u hu w)
      have ho1 := HOR.out 9218868437227405311 (by omega)
      have ho2 := HOR.out 9218868437227405312 (by omega)
      rw [show ((9218868437227405311 : Nat) : Int) = 9218868437227405311 from rfl] at ho1
      rw [show ((9218868437227405312 : Nat) : Int) = 9218868437227405312 from rfl] at ho2
      clear hu HFG HFL HFM HOR HX
      cases u with
      | true =>
        go_upto_region 11 with fail
        go_quiet (fail)
        go_wp2_with (refine (HR.out _).mono ?_; rintro r2 w2 ⟨rfl, rfl⟩)
        go_ret
        refine ⟨ret_int ?_, ?_⟩
        · rw [HG.out]; rfl
        · show Below _ _ _
          rw [HBe.out]
          repeat (first | exact B3.out | with_reducible refine Below.drew ?_ | with_reducible refine below_drewN ?_ _ | with_reducible refine Below.setCell ?_ (by simp) _)
      | false =>
        go_upto_region 11 with fail
        go_quiet (fail)
        go_wp2_with (refine (HR.out _).mono ?_; rintro r2 w2 ⟨rfl, rfl⟩)
        go_ret
        refine ⟨ret_int ?_, ?_⟩
        · rw [HG.out]; rfl
        · show Below _ _ _
          rw [HBe.out]
          repeat (first | exact B3.out | with_reducible refine Below.drew ?_ | with_reducible refine below_drewN ?_ _ | with_reducible refine Below.setCell ?_ (by simp) _)
    · obtain ⟨pl, hpl⟩ : ∃ pl : Int, max (top - 52) (-1074) = pl := ⟨_, rfl⟩
      have hpl0 : -1074 ≤ pl := by omega
      have hpl1 : pl ≤ 971 := by omega
      have hpm : max (e2 + 75) (-1074) = pl := by omega
      obtain ⟨dr, hdr⟩ : ∃ dr : Int, pl - (top - 64 + 1) = dr := ⟨_, rfl⟩
      obtain ⟨q, hq⟩ : ∃ q : Nat, pl - -1074 = (q : Int) := ⟨(pl + 1074).toNat, by omega⟩
      have hq1 : q ≤ 2045 := by omega
      have hdm : max (e2 + 75) (-1074) - e2 - 64 = dr := by omega
      have hqm : (max (e2 + 75) (-1074) + 1074).toNat = q := by omega
      have hgt : top ≤ 1023 := by omega
      by_cases hd : 64 < dr
      · obtain rfl : q = 0 := by omega
        have HG := Lib.hid (HFL.out (by omega))
        obtain ⟨u, hu⟩ : ∃ u, upc s mode 0 1 = u := ⟨_, rfl⟩
        rw [hu] at HG
        have HR := Lib.hid (fun w => roundedUp_at (kI := 0) (rI := 1) (by rfl) (by rfl) s mode HZ.out u hu w)
        have ho1 := HOR.out 0 (by omega)
        have ho2 := HOR.out 1 (by omega)
        rw [show ((0 : Nat) : Int) = 0 from rfl] at ho1 hq
        rw [show ((1 : Nat) : Int) = 1 from rfl] at ho2
        clear hu HFG HFL HFM HOR HX hpm hdm hqm hq1
        cases u with
        | true =>
          go_upto_region 11 with fail
          go_quiet (fail)
          go_wp2_with (refine (HR.out _).mono ?_; rintro r2 w2 ⟨rfl, rfl⟩)
          go_ret
          refine ⟨ret_int ?_, ?_⟩
          · rw [HG.out]; rfl
          · show Below _ _ _
            rw [HBe.out]
            repeat (first | exact B3.out | with_reducible refine Below.drew ?_ | with_reducible refine below_drewN ?_ _ | with_reducible refine Below.setCell ?_ (by simp) _)
        | false =>
          go_upto_region 11 with fail
          go_quiet (fail)
          go_wp2_with (refine (HR.out _).mono ?_; rintro r2 w2 ⟨rfl, rfl⟩)
          go_ret
          refine ⟨ret_int ?_, ?_⟩
          · rw [HG.out]; rfl
          · show Below _ _ _
            rw [HBe.out]
            repeat (first | exact B3.out | with_reducible refine Below.drew ?_ | with_reducible refine below_drewN ?_ _ | with_reducible refine Below.setCell ?_ (by simp) _)
      · obtain ⟨d, hdd⟩ : ∃ d : Nat, dr = (d : Int) := ⟨dr.toNat, by omega⟩
        have hd11 : 11 ≤ d ∧ d ≤ 64 := by omega
        have hG := HFM.out d (by omega) (by omega) hd11.2
        rw [hqm] at hG
        have hkb : X / 2 ^ d ≤ 9007199254740992 := by
          have h1 : 2 ^ 11 ≤ 2 ^ d := Nat.pow_le_pow_right (by omega) hd11.1
          have h2 : X / 2 ^ d ≤ X / 2 ^ 11 := Nat.div_le_div_left h1 (by decide)
          omega
        have hs1 : IntKind.u64.wrap ((X : Int) * 2 ^ (64 - d)) = ((X * 2 ^ (64 - d) % 18446744073709551616 : Nat) : Int) := by rw [IntKind.wrap_u64]; exact (cast_modpow X (64 - d) 18446744073709551616).symm
        have hs2 : (X : Int) / 2 ^ d = ((X / 2 ^ d : Nat) : Int) := (cast_divpow _ _).symm
        obtain ⟨u, hu⟩ : ∃ u, upc s mode (X / 2 ^ d) (X * 2 ^ (64 - d) % 18446744073709551616) = u := ⟨_, rfl⟩
        rw [hu] at hG
        generalize X / 2 ^ d = kp at *
        generalize X * 2 ^ (64 - d) % 18446744073709551616 = rs at *
        have HR := Lib.hid (fun w => roundedUp_at (kI := (kp : Int)) (rI := (rs : Int)) rfl rfl s mode HZ.out u hu w)
        have HG := Lib.hid hG
        have ho1 := HOR.out (q * 4503599627370496 + kp) (by omega)
        have ho2 := HOR.out (q * 4503599627370496 + (kp + 1)) (by omega)
        obtain ⟨a1, ha1⟩ : ∃ a1 : Int, ((q * 4503599627370496 + kp : Nat) : Int) = a1 := ⟨_, rfl⟩
        obtain ⟨a2, ha2⟩ : ∃ a2 : Int, ((q * 4503599627370496 + (kp + 1) : Nat) : Int) = a2 := ⟨_, rfl⟩
        rw [ha1] at ho1
        rw [ha2] at ho2
        have A1 := Lib.hid ha1
        have A2 := Lib.hid ha2
        have k1 : (q : Int) * 4503599627370496 + (kp : Int) = a1 := by omega
        have k2 : (q : Int) * 4503599627370496 + ((kp : Int) + 1) = a2 := by omega
        have k3 : (0 : Int) ≤ (d : Int) := by omega
        have k4 : (d : Int) ≤ 64 := by omega
        have k5 : (0 : Int) ≤ 64 - (d : Int) := by omega
        have k6 : (kp : Int) + 1 < 18446744073709551616 := by omega
        have k7 : (q : Int) * 4503599627370496 < 18446744073709551616 := by omega
        have k8 : (0 : Int) ≤ a1 := by omega
        have k9 : a1 < 18446744073709551616 := by omega
        have k10 : (0 : Int) ≤ a2 := by omega
        have k11 : a2 < 18446744073709551616 := by omega
        have k12 : (q : Int) ≤ 2045 := by omega
        subst hdd
        clear hu hG HFG HFL HFM HOR HX hpm hdm hqm hq1 hd11 ha1 ha2 hkb
        cases u with
        | true =>
          go_upto_region 11 with fail
          go_quiet (fail)
          go_wp2_with (refine (HR.out _).mono ?_; rintro r2 w2 ⟨rfl, rfl⟩)
          go_ret
          refine ⟨ret_int ?_, ?_⟩
          · rw [HG.out]; have h2 := A2.out; first | (rw [if_pos trivial]; omega) | (rw [if_pos rfl]; omega)
          · show Below _ _ _
            rw [HBe.out]
            repeat (first | exact B3.out | with_reducible refine Below.drew ?_ | with_reducible refine below_drewN ?_ _ | with_reducible refine Below.setCell ?_ (by simp) _)
        | false =>
          go_upto_region 11 with fail
          go_quiet (fail)
          go_wp2_with (refine (HR.out _).mono ?_; rintro r2 w2 ⟨rfl, rfl⟩)
          go_ret
          refine ⟨ret_int ?_, ?_⟩
          · rw [HG.out]; have h1 := A1.out; rw [if_neg (by simp)]; omega
          · show Below _ _ _
            rw [HBe.out]
            repeat (first | exact B3.out | with_reducible refine Below.drew ?_ | with_reducible refine below_drewN ?_ _ | with_reducible refine Below.setCell ?_ (by simp) _)
  | false =>
    by_cases hL0 : L = 0
    · have hL0 : ((L : Int) != 0) = false := by rw [bne_eq_false_iff_eq]; omega
      obtain rfl : H = X := by rw [← hX, show L = 0 by simpa using hL0]; rfl
      have HX := Lib.hid hX
      clear hX
      go_upto_region 4 with fail
      have x3 := x2
      have b3 := b2
      clear x2 b2 c0 c1 c2 c3 g0 g1 g2 g3

      have c0 := x3.c0
      have c1 := x3.c1
      have c2 := x3.c2
      have c3 := x3.c3
      have g0 := x3.f 0
      have B3 := Lib.hid b3
      clear x3 b3
      by_cases hgt : 1023 < top
      · have hmx : max (971 : Int) (-1074) = 971 := by decide
        have HG := Lib.hid (HFG.out (by omega))
        obtain ⟨u, hu⟩ : ∃ u, upc s mode 9007199254740991 18437736874454810624 = u := ⟨_, rfl⟩
        rw [hu] at HG
        have HR := Lib.hid (fun w => roundedUp_at (kI := 9007199254740991) (rI := 18437736874454810624) (by rfl) (by rfl) s mode HZ.out u hu w)
        have ho1 := HOR.out 9218868437227405311 (by omega)
        have ho2 := HOR.out 9218868437227405312 (by omega)
        rw [show ((9218868437227405311 : Nat) : Int) = 9218868437227405311 from rfl] at ho1
        rw [show ((9218868437227405312 : Nat) : Int) = 9218868437227405312 from rfl] at ho2
        clear hu HFG HFL HFM HOR HX
        cases u with
        | true =>
          go_upto_region 11 with fail
          go_quiet (fail)
          go_wp2_with (refine (HR.out _).mono ?_; rintro r2 w2 ⟨rfl, rfl⟩)
          go_ret
          refine ⟨ret_int ?_, ?_⟩
          · rw [HG.out]; rfl
          · show Below _ _ _
            rw [HBe.out]
            repeat (first | exact B3.out | with_reducible refine Below.drew ?_ | with_reducible refine below_drewN ?_ _ | with_reducible refine Below.setCell ?_ (by simp) _)
        | false =>
          go_upto_region 11 with fail
          go_quiet (fail)
          go_wp2_with (refine (HR.out _).mono ?_; rintro r2 w2 ⟨rfl, rfl⟩)
          go_ret
          refine ⟨ret_int ?_, ?_⟩
          · rw [HG.out]; rfl
          · show Below _ _ _
            rw [HBe.out]
            repeat (first | exact B3.out | with_reducible refine Below.drew ?_ | with_reducible refine below_drewN ?_ _ | with_reducible refine Below.setCell ?_ (by simp) _)
      · obtain ⟨pl, hpl⟩ : ∃ pl : Int, max (top - 52) (-1074) = pl := ⟨_, rfl⟩
        have hpl0 : -1074 ≤ pl := by omega
        have hpl1 : pl ≤ 971 := by omega
        have hpm : max (e2 + 75) (-1074) = pl := by omega
        obtain ⟨dr, hdr⟩ : ∃ dr : Int, pl - (top - 64 + 1) = dr := ⟨_, rfl⟩
        obtain ⟨q, hq⟩ : ∃ q : Nat, pl - -1074 = (q : Int) := ⟨(pl + 1074).toNat, by omega⟩
        have hq1 : q ≤ 2045 := by omega
        have hdm : max (e2 + 75) (-1074) - e2 - 64 = dr := by omega
        have hqm : (max (e2 + 75) (-1074) + 1074).toNat = q := by omega
        have hgt : top ≤ 1023 := by omega
        by_cases hd : 64 < dr
        · obtain rfl : q = 0 := by omega
          have HG := Lib.hid (HFL.out (by omega))
          obtain ⟨u, hu⟩ : ∃ u, upc s mode 0 1 = u := ⟨_, rfl⟩
          rw [hu] at HG
          have HR := Lib.hid (fun w => roundedUp_at (kI := 0) (rI := 1) (by rfl) (by rfl) s mode HZ.out u hu w)
          have ho1 := HOR.out 0 (by omega)
          have ho2 := HOR.out 1 (by omega)
          rw [show ((0 : Nat) : Int) = 0 from rfl] at ho1 hq
          rw [show ((1 : Nat) : Int) = 1 from rfl] at ho2
          clear hu HFG HFL HFM HOR HX hpm hdm hqm hq1
          cases u with
          | true =>
            go_upto_region 11 with fail
            go_quiet (fail)
            go_wp2_with (refine (HR.out _).mono ?_; rintro r2 w2 ⟨rfl, rfl⟩)
            go_ret
            refine ⟨ret_int ?_, ?_⟩
            · rw [HG.out]; rfl
            · show Below _ _ _
              rw [HBe.out]
              repeat (first | exact B3.out | with_reducible refine Below.drew ?_ | with_reducible refine below_drewN ?_ _ | with_reducible refine Below.setCell ?_ (by simp) _)
          | false =>
            go_upto_region 11 with fail
            go_quiet (fail)
            go_wp2_with (refine (HR.out _).mono ?_; rintro r2 w2 ⟨rfl, rfl⟩)
            go_ret
            refine ⟨ret_int ?_, ?_⟩
            · rw [HG.out]; rfl
            · show Below _ _ _
              rw [HBe.out]
              repeat (first | exact B3.out | with_reducible refine Below.drew ?_ | with_reducible refine below_drewN ?_ _ | with_reducible refine Below.setCell ?_ (by simp) _)
        · obtain ⟨d, hdd⟩ : ∃ d : Nat, dr = (d : Int) := ⟨dr.toNat, by omega⟩
          have hd11 : 11 ≤ d ∧ d ≤ 64 := by omega
          have hG := HFM.out d (by omega) (by omega) hd11.2
          rw [hqm] at hG
          have hkb : H / 2 ^ d ≤ 9007199254740992 := by
            have h1 : 2 ^ 11 ≤ 2 ^ d := Nat.pow_le_pow_right (by omega) hd11.1
            have h2 : H / 2 ^ d ≤ H / 2 ^ 11 := Nat.div_le_div_left h1 (by decide)
            omega
          have hs1 : IntKind.u64.wrap ((H : Int) * 2 ^ (64 - d)) = ((H * 2 ^ (64 - d) % 18446744073709551616 : Nat) : Int) := by rw [IntKind.wrap_u64]; exact (cast_modpow H (64 - d) 18446744073709551616).symm
          have hs2 : (H : Int) / 2 ^ d = ((H / 2 ^ d : Nat) : Int) := (cast_divpow _ _).symm
          obtain ⟨u, hu⟩ : ∃ u, upc s mode (H / 2 ^ d) (H * 2 ^ (64 - d) % 18446744073709551616) = u := ⟨_, rfl⟩
          rw [hu] at hG
          generalize H / 2 ^ d = kp at *
          generalize H * 2 ^ (64 - d) % 18446744073709551616 = rs at *
          have HR := Lib.hid (fun w => roundedUp_at (kI := (kp : Int)) (rI := (rs : Int)) rfl rfl s mode HZ.out u hu w)
          have HG := Lib.hid hG
          have ho1 := HOR.out (q * 4503599627370496 + kp) (by omega)
          have ho2 := HOR.out (q * 4503599627370496 + (kp + 1)) (by omega)
          obtain ⟨a1, ha1⟩ : ∃ a1 : Int, ((q * 4503599627370496 + kp : Nat) : Int) = a1 := ⟨_, rfl⟩
          obtain ⟨a2, ha2⟩ : ∃ a2 : Int, ((q * 4503599627370496 + (kp + 1) : Nat) : Int) = a2 := ⟨_, rfl⟩
          rw [ha1] at ho1
          rw [ha2] at ho2
          have A1 := Lib.hid ha1
          have A2 := Lib.hid ha2
          have k1 : (q : Int) * 4503599627370496 + (kp : Int) = a1 := by omega
          have k2 : (q : Int) * 4503599627370496 + ((kp : Int) + 1) = a2 := by omega
          have k3 : (0 : Int) ≤ (d : Int) := by omega
          have k4 : (d : Int) ≤ 64 := by omega
          have k5 : (0 : Int) ≤ 64 - (d : Int) := by omega
          have k6 : (kp : Int) + 1 < 18446744073709551616 := by omega
          have k7 : (q : Int) * 4503599627370496 < 18446744073709551616 := by omega
          have k8 : (0 : Int) ≤ a1 := by omega
          have k9 : a1 < 18446744073709551616 := by omega
          have k10 : (0 : Int) ≤ a2 := by omega
          have k11 : a2 < 18446744073709551616 := by omega
          have k12 : (q : Int) ≤ 2045 := by omega
          subst hdd
          clear hu hG HFG HFL HFM HOR HX hpm hdm hqm hq1 hd11 ha1 ha2 hkb
          cases u with
          | true =>
            go_upto_region 11 with fail
            go_quiet (fail)
            go_wp2_with (refine (HR.out _).mono ?_; rintro r2 w2 ⟨rfl, rfl⟩)
            go_ret
            refine ⟨ret_int ?_, ?_⟩
            · rw [HG.out]; have h2 := A2.out; first | (rw [if_pos trivial]; omega) | (rw [if_pos rfl]; omega)
            · show Below _ _ _
              rw [HBe.out]
              repeat (first | exact B3.out | with_reducible refine Below.drew ?_ | with_reducible refine below_drewN ?_ _ | with_reducible refine Below.setCell ?_ (by simp) _)
          | false =>
            go_upto_region 11 with fail
            go_quiet (fail)
            go_wp2_with (refine (HR.out _).mono ?_; rintro r2 w2 ⟨rfl, rfl⟩)
            go_ret
            refine ⟨ret_int ?_, ?_⟩
            · rw [HG.out]; have h1 := A1.out; rw [if_neg (by simp)]; omega
            · show Below _ _ _
              rw [HBe.out]
              repeat (first | exact B3.out | with_reducible refine Below.drew ?_ | with_reducible refine below_drewN ?_ _ | with_reducible refine Below.setCell ?_ (by simp) _)
    · have hL1 : (false || decide (L ≠ 0)) = true := by simp [hL0]
      rw [hL1] at hX
      have hL0 : ((L : Int) != 0) = true := by rw [bne_iff_ne]; omega
      clear hL1
      obtain rfl : H / 2 * 2 + 1 = X := by rw [← hX]; rfl
      have HX := Lib.hid hX
      clear hX
      generalize H / 2 * 2 + 1 = X at *
      go_upto_region 4 with fail
      have x3 := x2.stored0 X
      have b3 := b2.trans ((only_set1 W2 B 0 (.int .u64 X)).below (Nat.le_refl _))
      generalize W2.setCell ⟨B, 0, none⟩ (.int .u64 X) = W3 at *
      clear x2 b2 c0 c1 c2 c3 g0 g1 g2 g3

      have c0 := x3.c0
      have c1 := x3.c1
      have c2 := x3.c2
      have c3 := x3.c3
      have g0 := x3.f 0
      have B3 := Lib.hid b3
      clear x3 b3
      by_cases hgt : 1023 < top
      · have hmx : max (971 : Int) (-1074) = 971 := by decide
        have HG := Lib.hid (HFG.out (by omega))
        obtain ⟨u, hu⟩ : ∃ u, upc s mode 9007199254740991 18437736874454810624 = u := ⟨_, rfl⟩
        rw [hu] at HG
        have HR := Lib.hid (fun w => roundedUp_at (kI := 9007199254740991) (rI := 18437736874454810624) (by rfl) (by rfl) s mode HZ.out u hu w)
        have ho1 := HOR.out 9218868437227405311 (by omega)
        have ho2 := HOR.out 9218868437227405312 (by omega)
        rw [show ((9218868437227405311 : Nat) : Int) = 9218868437227405311 from rfl] at ho1
        rw [show ((9218868437227405312 : Nat) : Int) = 9218868437227405312 from rfl] at ho2
        clear hu HFG HFL HFM HOR HX
        cases u with
        | true =>
          go_upto_region 11 with fail
          go_quiet (fail)
          go_wp2_with (refine (HR.out _).mono ?_; rintro r2 w2 ⟨rfl, rfl⟩)
          go_ret
          refine ⟨ret_int ?_, ?_⟩
          · rw [HG.out]; rfl
          · show Below _ _ _
            rw [HBe.out]
            repeat (first | exact B3.out | with_reducible refine Below.drew ?_ | with_reducible refine below_drewN ?_ _ | with_reducible refine Below.setCell ?_ (by simp) _)
        | false =>
          go_upto_region 11 with fail
          go_quiet (fail)
          go_wp2_with (refine (HR.out _).mono ?_; rintro r2 w2 ⟨rfl, rfl⟩)
          go_ret
          refine ⟨ret_int ?_, ?_⟩
          · rw [HG.out]; rfl
          · show Below _ _ _
            rw [HBe.out]
            repeat (first | exact B3.out | with_reducible refine Below.drew ?_ | with_reducible refine below_drewN ?_ _ | with_reducible refine Below.setCell ?_ (by simp) _)
      · obtain ⟨pl, hpl⟩ : ∃ pl : Int, max (top - 52) (-1074) = pl := ⟨_, rfl⟩
        have hpl0 : -1074 ≤ pl := by omega
        have hpl1 : pl ≤ 971 := by omega
        have hpm : max (e2 + 75) (-1074) = pl := by omega
        obtain ⟨dr, hdr⟩ : ∃ dr : Int, pl - (top - 64 + 1) = dr := ⟨_, rfl⟩
        obtain ⟨q, hq⟩ : ∃ q : Nat, pl - -1074 = (q : Int) := ⟨(pl + 1074).toNat, by omega⟩
        have hq1 : q ≤ 2045 := by omega
        have hdm : max (e2 + 75) (-1074) - e2 - 64 = dr := by omega
        have hqm : (max (e2 + 75) (-1074) + 1074).toNat = q := by omega
        have hgt : top ≤ 1023 := by omega
        by_cases hd : 64 < dr
        · obtain rfl : q = 0 := by omega
          have HG := Lib.hid (HFL.out (by omega))
          obtain ⟨u, hu⟩ : ∃ u, upc s mode 0 1 = u := ⟨_, rfl⟩
          rw [hu] at HG
          have HR := Lib.hid (fun w => roundedUp_at (kI := 0) (rI := 1) (by rfl) (by rfl) s mode HZ.out u hu w)
          have ho1 := HOR.out 0 (by omega)
          have ho2 := HOR.out 1 (by omega)
          rw [show ((0 : Nat) : Int) = 0 from rfl] at ho1 hq
          rw [show ((1 : Nat) : Int) = 1 from rfl] at ho2
          clear hu HFG HFL HFM HOR HX hpm hdm hqm hq1
          cases u with
          | true =>
            go_upto_region 11 with fail
            go_quiet (fail)
            go_wp2_with (refine (HR.out _).mono ?_; rintro r2 w2 ⟨rfl, rfl⟩)
            go_ret
            refine ⟨ret_int ?_, ?_⟩
            · rw [HG.out]; rfl
            · show Below _ _ _
              rw [HBe.out]
              repeat (first | exact B3.out | with_reducible refine Below.drew ?_ | with_reducible refine below_drewN ?_ _ | with_reducible refine Below.setCell ?_ (by simp) _)
          | false =>
            go_upto_region 11 with fail
            go_quiet (fail)
            go_wp2_with (refine (HR.out _).mono ?_; rintro r2 w2 ⟨rfl, rfl⟩)
            go_ret
            refine ⟨ret_int ?_, ?_⟩
            · rw [HG.out]; rfl
            · show Below _ _ _
              rw [HBe.out]
              repeat (first | exact B3.out | with_reducible refine Below.drew ?_ | with_reducible refine below_drewN ?_ _ | with_reducible refine Below.setCell ?_ (by simp) _)
        · obtain ⟨d, hdd⟩ : ∃ d : Nat, dr = (d : Int) := ⟨dr.toNat, by omega⟩
          have hd11 : 11 ≤ d ∧ d ≤ 64 := by omega
          have hG := HFM.out d (by omega) (by omega) hd11.2
          rw [hqm] at hG
          have hkb : X / 2 ^ d ≤ 9007199254740992 := by
            have h1 : 2 ^ 11 ≤ 2 ^ d := Nat.pow_le_pow_right (by omega) hd11.1
            have h2 : X / 2 ^ d ≤ X / 2 ^ 11 := Nat.div_le_div_left h1 (by decide)
            omega
          have hs1 : IntKind.u64.wrap ((X : Int) * 2 ^ (64 - d)) = ((X * 2 ^ (64 - d) % 18446744073709551616 : Nat) : Int) := by rw [IntKind.wrap_u64]; exact (cast_modpow X (64 - d) 18446744073709551616).symm
          have hs2 : (X : Int) / 2 ^ d = ((X / 2 ^ d : Nat) : Int) := (cast_divpow _ _).symm
          obtain ⟨u, hu⟩ : ∃ u, upc s mode (X / 2 ^ d) (X * 2 ^ (64 - d) % 18446744073709551616) = u := ⟨_, rfl⟩
          rw [hu] at hG
          generalize X / 2 ^ d = kp at *
          generalize X * 2 ^ (64 - d) % 18446744073709551616 = rs at *
          have HR := Lib.hid (fun w => roundedUp_at (kI := (kp : Int)) (rI := (rs : Int)) rfl rfl s mode HZ.out u hu w)
          have HG := Lib.hid hG
          have ho1 := HOR.out (q * 4503599627370496 + kp) (by omega)
          have ho2 := HOR.out (q * 4503599627370496 + (kp + 1)) (by omega)
          obtain ⟨a1, ha1⟩ : ∃ a1 : Int, ((q * 4503599627370496 + kp : Nat) : Int) = a1 := ⟨_, rfl⟩
          obtain ⟨a2, ha2⟩ : ∃ a2 : Int, ((q * 4503599627370496 + (kp + 1) : Nat) : Int) = a2 := ⟨_, rfl⟩
          rw [ha1] at ho1
          rw [ha2] at ho2
          have A1 := Lib.hid ha1
          have A2 := Lib.hid ha2
          have k1 : (q : Int) * 4503599627370496 + (kp : Int) = a1 := by omega
          have k2 : (q : Int) * 4503599627370496 + ((kp : Int) + 1) = a2 := by omega
          have k3 : (0 : Int) ≤ (d : Int) := by omega
          have k4 : (d : Int) ≤ 64 := by omega
          have k5 : (0 : Int) ≤ 64 - (d : Int) := by omega
          have k6 : (kp : Int) + 1 < 18446744073709551616 := by omega
          have k7 : (q : Int) * 4503599627370496 < 18446744073709551616 := by omega
          have k8 : (0 : Int) ≤ a1 := by omega
          have k9 : a1 < 18446744073709551616 := by omega
          have k10 : (0 : Int) ≤ a2 := by omega
          have k11 : a2 < 18446744073709551616 := by omega
          have k12 : (q : Int) ≤ 2045 := by omega
          subst hdd
          clear hu hG HFG HFL HFM HOR HX hpm hdm hqm hq1 hd11 ha1 ha2 hkb
          cases u with
          | true =>
            go_upto_region 11 with fail
            go_quiet (fail)
            go_wp2_with (refine (HR.out _).mono ?_; rintro r2 w2 ⟨rfl, rfl⟩)
            go_ret
            refine ⟨ret_int ?_, ?_⟩
            · rw [HG.out]; have h2 := A2.out; first | (rw [if_pos trivial]; omega) | (rw [if_pos rfl]; omega)
            · show Below _ _ _
              rw [HBe.out]
              repeat (first | exact B3.out | with_reducible refine Below.drew ?_ | with_reducible refine below_drewN ?_ _ | with_reducible refine Below.setCell ?_ (by simp) _)
          | false =>
            go_upto_region 11 with fail
            go_quiet (fail)
            go_wp2_with (refine (HR.out _).mono ?_; rintro r2 w2 ⟨rfl, rfl⟩)
            go_ret
            refine ⟨ret_int ?_, ?_⟩
            · rw [HG.out]; have h1 := A1.out; rw [if_neg (by simp)]; omega
            · show Below _ _ _
              rw [HBe.out]
              repeat (first | exact B3.out | with_reducible refine Below.drew ?_ | with_reducible refine below_drewN ?_ _ | with_reducible refine Below.setCell ?_ (by simp) _)
end Go.Proofs.YtjohpdobnedilaaGreatDoor
