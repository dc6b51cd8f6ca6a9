import Derived.Test.YtolghagbpnjpgaaGreatDoorFExactU1
import Derived.Test.YtolghagbpnjpgaaGreatDoorFExactU3
import Derived.Deep.RegionHeld3
import Derived.Deep.CutRange
import Derived.Deep.CutBlock
import Derived.Test.YtolghagbpnjpgaaGreatDoorProg
import Derived.Test.YtolghagbpnjpgaaGreatDoorFExactU2
import Derived.Shelf.Small.Bits
import Derived.Shelf.Bits.Mul64
import Derived.Shelf.Spec.BitsCarry
import Derived.OwnWalk
namespace Go.Proofs.YtolghagbpnjpgaaGreatDoor
open Go.RowKit

/-- block g holds a number with these parts, in a block of the call's own -/
def NBox (W : World) (g : Nat) (hi lo e : Int) (t : Bool) : Prop := W.heap[g]? = some (.cells #[.int .u64 hi, .int .u64 lo, .int .i64 e, .bool t] 58 (0, 0))

section
variable {W w w' : World} {g : Nat} {hi lo e : Int} {t : Bool}
theorem NBox.c0 (h : NBox W g hi lo e t) : W.cell? ⟨g, 0, none⟩ = some (.int .u64 hi) := by rw [cell_of_row W g 0 _ _ _ h]; rfl
theorem NBox.c1 (h : NBox W g hi lo e t) : W.cell? ⟨g, 1, none⟩ = some (.int .u64 lo) := by rw [cell_of_row W g 1 _ _ _ h]; rfl
theorem NBox.c2 (h : NBox W g hi lo e t) : W.cell? ⟨g, 2, none⟩ = some (.int .i64 e) := by rw [cell_of_row W g 2 _ _ _ h]; rfl
theorem NBox.c3 (h : NBox W g hi lo e t) : W.cell? ⟨g, 3, none⟩ = some (.bool t) := by rw [cell_of_row W g 3 _ _ _ h]; rfl
theorem NBox.f (h : NBox W g hi lo e t) (o : Nat) : W.frozen? ⟨g, o, none⟩ = false := by
  unfold NBox at h; simp [World.frozen?, h]
theorem NBox.lt (h : NBox w g hi lo e t) : g < w.heap.size := lt_of_cell h.c0
theorem NBox.kept {B : Nat} (h : NBox w g hi lo e t) (hb : Below B w w') (hg : g < B) : NBox w' g hi lo e t := by
  unfold NBox; rw [hb.block g hg]; exact h
theorem NBox.below (h : NBox w g hi lo e t) (hb : Below w.heap.size w w') : NBox w' g hi lo e t := h.kept hb h.lt
theorem NBox.only {k : Nat} (h : NBox w g hi lo e t) (ho : Only k w w') (hne : g ≠ k) : NBox w' g hi lo e t := by
  unfold NBox; rw [ho.block g hne]; exact h
end

theorem NBox.new (w : World) (hi lo e : Int) (t : Bool) : NBox (w.alloc (.cells #[.int .u64 hi, .int .u64 lo, .int .i64 e, .bool t] 58)) w.heap.size hi lo e t := heap_alloc_new w _

theorem nbox_new (w : World) (hi lo e : Int) (t : Bool) :
    ∃ W, W = w.alloc (.cells #[.int .u64 hi, .int .u64 lo, .int .i64 e, .bool t] 58) ∧ Below w.heap.size w W ∧ NBox W w.heap.size hi lo e t ∧ w.heap.size + 1 ≤ W.heap.size :=
  ⟨_, rfl, (Below.refl _ w).alloc (Nat.le_refl _) _, NBox.new w hi lo e t, by simp⟩

theorem NBox.stored {w : World} {g : Nat} {hi lo e : Int} {t : Bool} (h : NBox w g hi lo e t) (hi' lo' e' : Int) (t' : Bool) :
    NBox ((((w.setCell ⟨g, 0, none⟩ (.int .u64 hi')).setCell ⟨g, 1, none⟩ (.int .u64 lo')).setCell ⟨g, 2, none⟩ (.int .i64 e')).setCell ⟨g, 3, none⟩ (.bool t')) g hi' lo' e' t' := by
  unfold NBox at h ⊢
  simp [World.setCell, Array.getElem?_modify, h]
theorem NBox.stored012 {w : World} {g : Nat} {hi lo e : Int} {t : Bool} (h : NBox w g hi lo e t) (hi' lo' e' : Int) :
    NBox (((w.setCell ⟨g, 0, none⟩ (.int .u64 hi')).setCell ⟨g, 1, none⟩ (.int .u64 lo')).setCell ⟨g, 2, none⟩ (.int .i64 e')) g hi' lo' e' t := by
  unfold NBox at h ⊢
  simp [World.setCell, Array.getElem?_modify, h]
theorem NBox.drew {w : World} {g : Nat} {hi lo e : Int} {t : Bool} (h : NBox w g hi lo e t) : NBox w.drew g hi lo e t := h
theorem only_nset3 (w : World) (g : Nat) (u v x : Value) : Only g w (((w.setCell ⟨g, 0, none⟩ u).setCell ⟨g, 1, none⟩ v).setCell ⟨g, 2, none⟩ x) := (((Only.refl g w).setCell _ _).setCell _ _).setCell _ _
theorem only_nset4 (w : World) (g : Nat) (u v x y : Value) : Only g w ((((w.setCell ⟨g, 0, none⟩ u).setCell ⟨g, 1, none⟩ v).setCell ⟨g, 2, none⟩ x).setCell ⟨g, 3, none⟩ y) := ((((Only.refl g w).setCell _ _).setCell _ _).setCell _ _).setCell _ _

/-- two numbers boxed -/
theorem boxes_nn (w : World) (hi lo e : Int) (t : Bool) (hi' lo' e' : Int) (t' : Bool) :
    ∃ W, W = (w.alloc (.cells #[.int .u64 hi, .int .u64 lo, .int .i64 e, .bool t] 58)).alloc (.cells #[.int .u64 hi', .int .u64 lo', .int .i64 e', .bool t'] 58) ∧ Below w.heap.size w W ∧ NBox W w.heap.size hi lo e t ∧ NBox W (w.heap.size + 1) hi' lo' e' t' ∧ w.heap.size + 2 ≤ W.heap.size := by
  refine ⟨_, rfl, ((Below.refl _ w).alloc (Nat.le_refl _) _).alloc (by simp) _, ?_, ?_, by simp⟩
  · exact (NBox.new w hi lo e t).below ((Below.refl _ _).alloc (Nat.le_refl _) _)
  · have := NBox.new (w.alloc (.cells #[.int .u64 hi, .int .u64 lo, .int .i64 e, .bool t] 58)) hi' lo' e' t'
    simpa using this
/-- three numbers boxed -/
theorem boxes_nnn (w : World) (hi lo e : Int) (t : Bool) (hi' lo' e' : Int) (t' : Bool) (hi2 lo2 e2 : Int) (t2 : Bool) :
    ∃ W, W = ((w.alloc (.cells #[.int .u64 hi, .int .u64 lo, .int .i64 e, .bool t] 58)).alloc (.cells #[.int .u64 hi', .int .u64 lo', .int .i64 e', .bool t'] 58)).alloc (.cells #[.int .u64 hi2, .int .u64 lo2, .int .i64 e2, .bool t2] 58) ∧ Below w.heap.size w W ∧
      NBox W w.heap.size hi lo e t ∧ NBox W (w.heap.size + 1) hi' lo' e' t' ∧ NBox W (w.heap.size + 1 + 1) hi2 lo2 e2 t2 ∧ w.heap.size + 3 ≤ W.heap.size := by
  refine ⟨_, rfl, (((Below.refl _ w).alloc (Nat.le_refl _) _).alloc (by simp) _).alloc (by simp; omega) _, ?_, ?_, ?_, by simp⟩
  · exact (NBox.new w hi lo e t).below (((Below.refl _ _).alloc (Nat.le_refl _) _).alloc (by simp) _)
  · have := (NBox.new (w.alloc (.cells #[.int .u64 hi, .int .u64 lo, .int .i64 e, .bool t] 58)) hi' lo' e' t').below ((Below.refl _ _).alloc (Nat.le_refl _) (.cells #[.int .u64 hi2, .int .u64 lo2, .int .i64 e2, .bool t2] 58))
    simpa using this
  · have := NBox.new ((w.alloc (.cells #[.int .u64 hi, .int .u64 lo, .int .i64 e, .bool t] 58)).alloc (.cells #[.int .u64 hi', .int .u64 lo', .int .i64 e', .bool t'] 58)) hi2 lo2 e2 t2
    simpa using this
end Go.Proofs.YtolghagbpnjpgaaGreatDoor

namespace Go.Proofs.YtolghagbpnjpgaaGreatDoor
open Go.RowKit

theorem ret_bool {a b : Bool} (h : a = b) : Ending.returned (.bool a) = .returned (.bool b) := by rw [h]
theorem ret_int {k : IntKind} {a b : Int} (h : a = b) : Ending.returned (.int k a) = .returned (.int k b) := by rw [h]

def nanB (f : Nat) : Bool := decide (9218868437227405312 < fmag f)
def infB (f : Nat) : Bool := decide (fmag f = 9218868437227405312)
def zeroB (f : Nat) : Bool := decide (fmag f = 0)
/-- the kind of a float -/
def fkind (f : Nat) : Int := if fmag f = 0 then 0 else if fmag f < 9218868437227405312 then 1 else if fmag f = 9218868437227405312 then 2 else 3
def fnegF (f : Nat) : Nat := if nanB f then 9221120237041090560 else sgz (!fneg f) + fmag f
/-- the place in the order -/
def frank (f : Nat) : Int := if fneg f then -(fmag f : Int) else (fmag f : Int)
set_option maxRecDepth 100000 in
theorem isNaN_any (f : Nat) (hf : f < 18446744073709551616) (w : World) :
    Calls Tryz.prog 69 #[.int .u64 (f : Int)] w fun e w' => e = .returned (.bool (nanB f)) ∧ w = w' := by
  have ha := andNot_sign hf
  have hm := fmag_lt f
  unfold nanB
  generalize fmag f = m at *
  go_enter Tryz.func69, Tryz.ntmps69
  go_wp2
  go_ret
  exact ⟨ret_bool (by first | rfl | exact decide_eq_decide.2 (by omega) | (rw [Bool.eq_iff_iff]; simp; try omega)), rfl⟩

set_option maxRecDepth 100000 in
theorem isInf_any (f : Nat) (hf : f < 18446744073709551616) (w : World) :
    Calls Tryz.prog 70 #[.int .u64 (f : Int)] w fun e w' => e = .returned (.bool (infB f)) ∧ w = w' := by
  have ha := andNot_sign hf
  have hm := fmag_lt f
  unfold infB
  generalize fmag f = m at *
  go_enter Tryz.func70, Tryz.ntmps70
  go_wp2
  go_ret
  exact ⟨ret_bool (by first | rfl | exact decide_eq_decide.2 (by omega) | (rw [Bool.eq_iff_iff]; simp; try omega)), rfl⟩

set_option maxRecDepth 100000 in
theorem isZero_any (f : Nat) (hf : f < 18446744073709551616) (w : World) :
    Calls Tryz.prog 71 #[.int .u64 (f : Int)] w fun e w' => e = .returned (.bool (zeroB f)) ∧ w = w' := by
  have ha := andNot_sign hf
  have hm := fmag_lt f
  unfold zeroB
  generalize fmag f = m at *
  go_enter Tryz.func71, Tryz.ntmps71
  go_wp2
  go_ret
  exact ⟨ret_bool (by first | rfl | exact decide_eq_decide.2 (by omega) | (rw [Bool.eq_iff_iff]; simp; try omega)), rfl⟩

set_option maxRecDepth 100000 in
theorem isNegative_any (f : Nat) (hf : f < 18446744073709551616) (w : World) :
    Calls Tryz.prog 78 #[.int .u64 (f : Int)] w fun e w' => e = .returned (.bool (fneg f)) ∧ w = w' := by
  have ha := and_sign hf
  cases hn : fneg f
  all_goals
    rw [hn] at ha
    clear hn
    unfold sgz at ha
    simp only [if_true, Bool.false_eq_true, if_false] at ha
    go_enter Tryz.func78, Tryz.ntmps78
    go_wp2
    go_ret
    exact ⟨ret_bool (by first | rfl | decide | simp), rfl⟩

set_option maxRecDepth 100000 in
theorem signOf_any (f : Nat) (hf : f < 18446744073709551616) (w : World) :
    Calls Tryz.prog 65 #[.int .u64 (f : Int)] w fun e w' => e = .returned (.int .u64 ((sgz (fneg f) : Nat) : Int)) ∧ w = w' := by
  have ha := and_sign hf
  generalize sgz (fneg f) = z at *
  go_enter Tryz.func65, Tryz.ntmps65
  go_wp2
  go_ret
  exact ⟨rfl, rfl⟩

set_option maxRecDepth 100000 in
theorem cancelled_any (mode : Int) (w : World) :
    Calls Tryz.prog 75 #[.int .i64 mode] w fun e w' => e = .returned (.int .u64 ((cancel mode : Nat) : Int)) ∧ w = w' := by
  unfold cancel
  by_cases h : mode = 1
  all_goals
    go_enter Tryz.func75, Tryz.ntmps75
    go_wp2
    go_ret
    exact ⟨ret_int (by first | rfl | (rw [if_pos h]; rfl) | (rw [if_neg h]; rfl)), rfl⟩

theorem fkind_cases (f : Nat) : fmag f = 0 ∧ fkind f = 0 ∨ fmag f ≠ 0 ∧ fmag f < 9218868437227405312 ∧ fkind f = 1 ∨ fmag f = 9218868437227405312 ∧ fkind f = 2 ∨ 9218868437227405312 < fmag f ∧ fkind f = 3 := by
  unfold fkind
  by_cases h0 : fmag f = 0
  · left; exact ⟨h0, if_pos h0⟩
  · right
    by_cases h1 : fmag f < 9218868437227405312
    · left; exact ⟨h0, h1, by rw [if_neg h0, if_pos h1]⟩
    · right
      by_cases h2 : fmag f = 9218868437227405312
      · left; exact ⟨h2, by rw [if_neg h0, if_neg h1, if_pos h2]⟩
      · right; exact ⟨by omega, by rw [if_neg h0, if_neg h1, if_neg h2]⟩

set_option maxRecDepth 100000 in
theorem kind_any (f : Nat) (hf : f < 18446744073709551616) (w : World) :
    Calls Tryz.prog 81 #[.int .u64 (f : Int)] w fun e w' => e = .returned (.int .i64 (fkind f)) ∧ w = w' := by
  have ha := andNot_sign hf
  have hc := fkind_cases f
  generalize fkind f = k at *
  generalize fmag f = m at *
  rcases hc with ⟨h0, rfl⟩ | ⟨h0, h1, rfl⟩ | ⟨h0, rfl⟩ | ⟨h0, rfl⟩
  · have b0 : ((m : Int) == 0) = true := by simp; omega
    clear h0
    go_enter Tryz.func81, Tryz.ntmps81
    go_wp2
    go_ret
    exact ⟨rfl, rfl⟩
  · have b0 : ((m : Int) == 0) = false := by simp; omega
    have b1 : (m : Int) < 9218868437227405312 := by omega
    clear h0 h1
    go_enter Tryz.func81, Tryz.ntmps81
    go_wp2
    go_ret
    exact ⟨rfl, rfl⟩
  · have b0 : ((m : Int) == 0) = false := by simp; omega
    have b1 : ¬ (m : Int) < 9218868437227405312 := by omega
    have b2 : ((m : Int) == 9218868437227405312) = true := by rw [beq_iff_eq]; omega
    clear h0
    go_enter Tryz.func81, Tryz.ntmps81
    go_wp2
    go_ret
    exact ⟨rfl, rfl⟩
  · have b0 : ((m : Int) == 0) = false := by simp; omega
    have b1 : ¬ (m : Int) < 9218868437227405312 := by omega
    have b2 : ((m : Int) == 9218868437227405312) = false := by rw [beq_eq_false_iff_ne]; omega
    clear h0
    go_enter Tryz.func81, Tryz.ntmps81
    go_wp2
    go_ret
    exact ⟨rfl, rfl⟩

def finB (f : Nat) : Bool := decide (fmag f < 9218868437227405312)
set_option maxRecDepth 100000 in
theorem negF_any (f : Nat) (hf : f < 18446744073709551616) (w : World) :
    Calls Tryz.prog 63 #[.int .u64 (f : Int)] w fun e w' => e = .returned (.int .u64 ((fnegF f : Nat) : Int)) ∧ w = w' := by
  have ha := xor_sign hf
  unfold fnegF
  generalize sgz (!fneg f) + fmag f = v at *
  cases hn : nanB f
  all_goals
    have HN := Lib.hid hn
    clear hn
    go_enter Tryz.func63, Tryz.ntmps63
    go_wp2_with (go_at_call 69; refine (isNaN_any f hf _).mono ?_; rw [HN.out]; rintro e w' ⟨rfl, rfl⟩)
    go_ret
    exact ⟨rfl, rfl⟩

theorem fnegF_lt {f : Nat} : fnegF f < 18446744073709551616 := by
  unfold fnegF
  have := fmag_lt f
  have := sgz_le (!fneg f)
  split <;> omega
end Go.Proofs.YtolghagbpnjpgaaGreatDoor

namespace Go.Proofs.YtolghagbpnjpgaaGreatDoor

/-- bits from place and significand -/
theorem fz_bits {q K : Nat} (hK : K ≤ 9007199254740992) (h : q = 0 ∨ 4503599627370496 ≤ K) (hq : q ≤ 2045) : fz (q * 4503599627370496 + K) = K * 2 ^ q := by
  have hm : fmag (q * 4503599627370496 + K) = q * 4503599627370496 + K := Nat.mod_eq_of_lt (by omega)
  unfold fz sig fsh ffld
  rw [hm]
  by_cases h1 : K < 4503599627370496
  · obtain rfl : q = 0 := by omega
    rw [if_pos (by omega), show (0 * 4503599627370496 + K) / 4503599627370496 - 1 = 0 by omega]
    simp
  · by_cases h2 : K = 9007199254740992
    · subst h2
      rw [if_neg (by omega), show (q * 4503599627370496 + 9007199254740992) % 4503599627370496 + 4503599627370496 = 4503599627370496 by omega, show (q * 4503599627370496 + 9007199254740992) / 4503599627370496 - 1 = q + 1 by omega, Nat.pow_succ]
      omega
    · rw [if_neg (by omega), show (q * 4503599627370496 + K) % 4503599627370496 + 4503599627370496 = K by omega, show (q * 4503599627370496 + K) / 4503599627370496 - 1 = q by omega]

/-- the next float's value: one unit more in the last place -/
theorem fz_succ {m : Nat} (h : m < 9218868437227405312) : fz (m + 1) = fz m + 2 ^ (m / 4503599627370496 - 1) := by
  obtain ⟨q, K, hq, hK, hn, hm⟩ : ∃ q K, q ≤ 2045 ∧ K < 9007199254740992 ∧ (q = 0 ∨ 4503599627370496 ≤ K) ∧ m = q * 4503599627370496 + K := by
    by_cases h1 : m < 4503599627370496
    · exact ⟨0, m, by omega, by omega, by omega, by omega⟩
    · exact ⟨m / 4503599627370496 - 1, m % 4503599627370496 + 4503599627370496, by omega, by omega, by omega, by omega⟩
  have e1 : m / 4503599627370496 - 1 = q := by omega
  rw [e1, hm, Nat.add_assoc, fz_bits (by omega) (by omega) hq, fz_bits (by omega) hn hq, Nat.add_mul, Nat.one_mul]

theorem fz_lt_succ {m : Nat} (h : m < 9218868437227405312) : fz m < fz (m + 1) := by
  rw [fz_succ h]
  exact Nat.lt_add_of_pos_right (Nat.pow_pos (by omega))
theorem fz_mono {m n : Nat} (h : m ≤ n) (hn : n ≤ 9218868437227405312) : fz m ≤ fz n := by
  induction n with
  | zero => rw [show m = 0 by omega]; exact Nat.le_refl _
  | succ n ih =>
    rcases Nat.lt_or_ge n m with h1 | h1
    · rw [show m = n + 1 by omega]; exact Nat.le_refl _
    · exact Nat.le_trans (ih h1 (by omega)) (Nat.le_of_lt (fz_lt_succ (by omega)))
theorem fz_lt {m n : Nat} (h : m < n) (hn : n ≤ 9218868437227405312) : fz m < fz n := Nat.lt_of_lt_of_le (fz_lt_succ (by omega)) (fz_mono (show m + 1 ≤ n from h) hn)
/-- the value of N 2^e in units of 2^-T -/
def vu (N : Nat) (e : Int) (T : Nat) : Nat := N * 2 ^ (e + T).toNat
/-- .. of a float -/
def fu (m T : Nat) : Nat := fz m * 2 ^ (T - 1074)

/-- is the magnitude raised: b says so to nearest -/
def fraise (neg : Bool) (mode : Int) (b : Bool) : Bool := if mode = 1 then neg else if mode = 2 then !neg else if mode = 3 then false else b

/-- what rounding a magnitude does: lo is the greatest float that is not greater -/
structure Rd (N : Nat) (e : Int) (T lo : Nat) (b : Bool) : Prop where
  lt : lo < 9218868437227405312
  val : ∀ neg mode, fla neg N e false mode = lo + (if fraise neg mode b then 1 else 0)
  above : fu lo T < vu N e T
  below : lo + 1 = 9218868437227405312 ∧ fu 9218868437227405312 T ≤ vu N e T ∨ vu N e T < fu (lo + 1) T
  near : b = true ∧ fu lo T + fu (lo + 1) T < 2 * vu N e T ∨ b = false ∧ 2 * vu N e T < fu lo T + fu (lo + 1) T ∨ 2 * vu N e T = fu lo T + fu (lo + 1) T ∧ b = decide (lo % 2 = 1)
def low46 : Nat := 2046
theorem fz_inf : fz 9218868437227405312 = 2 ^ 52 * 2 ^ low46 := by
  have h1 : sig 9218868437227405312 = 2 ^ 52 := by decide
  have h2 : fsh 9218868437227405312 = low46 := by decide
  unfold fz
  rw [h1, h2]

end Go.Proofs.YtolghagbpnjpgaaGreatDoor

namespace Go.Proofs.YtolghagbpnjpgaaGreatDoor

theorem cancel_num (mode : Int) : nanB (cancel mode) = false ∧ cancel mode < 18446744073709551616 ∧ fmag (cancel mode) = 0 := by
  unfold cancel
  split <;> decide
theorem fin_not {a : Nat} (h : finB a = true) : nanB a = false ∧ infB a = false := by
  have h1 : fmag a < 9218868437227405312 := of_decide_eq_true h
  exact ⟨decide_eq_false (by omega), decide_eq_false (by omega)⟩
end Go.Proofs.YtolghagbpnjpgaaGreatDoor

namespace Go.Proofs
open Go.Shelf
def Tryz.lays134_ren : Go.Shelf.Ren := ⟨fun | 129 => 191 | 134 => 148 | n => n, fun | 3 => 3 | 4 => 4 | 5 => 5 | 9 => 9 | 46 => 108 | 53 => 22 | n => n, fun | n => n⟩
theorem Tryz.lays134 : Go.Proofs.Lays.n134 Tryz.prog Tryz.lays134_ren := {
  mixed := by kernel_rfl
  f129 := Tryz.func191.trans (congrArg some (by kernel_rfl))
  f134 := Tryz.func148.trans (congrArg some (by kernel_rfl))
  t3 := Tryz.underlying3
  a3 := Tryz.isAgg3
  z3 := Tryz.sizeOf3
  v3 := Tryz.zeroValue3
  t4 := Tryz.underlying4
  a4 := Tryz.isAgg4
  z4 := Tryz.sizeOf4
  v4 := Tryz.zeroValue4
  t5 := Tryz.underlying5
  a5 := Tryz.isAgg5
  z5 := Tryz.sizeOf5
  v5 := Tryz.zeroValue5
  t9 := Tryz.underlying9
  a9 := Tryz.isAgg9
  z9 := Tryz.sizeOf9
  v9 := Tryz.zeroValue9
  t46 := Tryz.underlying108
  a46 := Tryz.isAgg108
  z46 := Tryz.sizeOf108
  v46 := Tryz.zeroValue108
  t53 := Tryz.underlying22
  a53 := Tryz.isAgg22
  z53 := Tryz.sizeOf22
  v53 := Tryz.zeroValue22 }
theorem Tryz.bits_LeadingZeros64 (x : Int) (w : World) (h0 : 0 ≤ x) (h1 : x ≤ 18446744073709551615) :
    Calls Tryz.prog 148 #[.int .u64 x] w fun e w' => e = .returned (.int .i64 (64 - (Lib.bitLen x.toNat : Int))) ∧ w' = w := Any.bits_LeadingZeros64 Tryz.lays134 x w h0 h1
def Tryz.lays264_ren : Go.Shelf.Ren := ⟨fun | 264 => 137 | n => n, fun | 46 => 108 | 53 => 22 | n => n, fun | n => n⟩
theorem Tryz.lays264 : Go.Proofs.Lays.n264 Tryz.prog Tryz.lays264_ren := {
  mixed := by kernel_rfl
  f264 := Tryz.func137.trans (congrArg some (by kernel_rfl))
  t46 := Tryz.underlying108
  a46 := Tryz.isAgg108
  z46 := Tryz.sizeOf108
  v46 := Tryz.zeroValue108
  t53 := Tryz.underlying22
  a53 := Tryz.isAgg22
  z53 := Tryz.sizeOf22
  v53 := Tryz.zeroValue22 }
theorem Tryz.bits_Mul64 (x y : Nat) (hx : x < 18446744073709551616) (hy : y < 18446744073709551616) (w : World) :
    Calls Tryz.prog 137 #[.int .u64 x, .int .u64 y] w fun e w' => e = .returned (.tuple #[.int .u64 ((x * y / 18446744073709551616 : Nat) : Int), .int .u64 ((x * y % 18446744073709551616 : Nat) : Int)]) ∧ w' = w := Any.bits_Mul64 Tryz.lays264 x y hx hy w
def Tryz.lays7_25_ren : Go.Shelf.Ren := ⟨fun | 25 => 184 | n => n, fun | 22 => 22 | n => n, fun | n => n⟩
theorem Tryz.lays7_25 : Go.Proofs.Lays7.n25 Tryz.prog Tryz.lays7_25_ren := {
  mixed := by kernel_rfl
  f25 := Tryz.func184.trans (congrArg some (by kernel_rfl))
  t22 := Tryz.underlying22
  a22 := Tryz.isAgg22
  z22 := Tryz.sizeOf22
  v22 := Tryz.zeroValue22
  i22 := by kernel_rfl }
def Tryz.lays7_26_ren : Go.Shelf.Ren := ⟨fun | 26 => 185 | n => n, fun | 22 => 22 | n => n, fun | n => n⟩
theorem Tryz.lays7_26 : Go.Proofs.Lays7.n26 Tryz.prog Tryz.lays7_26_ren := {
  mixed := by kernel_rfl
  f26 := Tryz.func185.trans (congrArg some (by kernel_rfl))
  t22 := Tryz.underlying22
  a22 := Tryz.isAgg22
  z22 := Tryz.sizeOf22
  v22 := Tryz.zeroValue22
  i22 := by kernel_rfl }
theorem Tryz.bits_Add64 (x y c : Nat) (hc : c ≤ 1) (w : World) :
    (callFunc 184 #[.int .u64 x, .int .u64 y, .int .u64 c]).run Tryz.prog w =
      .ok (.value (.tuple #[.int .u64 (((x + y + c) % 18446744073709551616 : Nat) : Int), .int .u64 (((x + y + c) / 18446744073709551616 : Nat) : Int)])) w := Any7.bits_Add64 Tryz.lays7_25 x y c hc w
theorem Tryz.bits_Sub64 (x y b : Nat) (hb : b ≤ 1) (w : World) :
    (callFunc 185 #[.int .u64 x, .int .u64 y, .int .u64 b]).run Tryz.prog w =
      .ok (.value (.tuple #[.int .u64 (((x + 18446744073709551616 - y - b) % 18446744073709551616 : Nat) : Int), .int .u64 ((if x < y + b then 1 else 0 : Nat) : Int)])) w := Any7.bits_Sub64 Tryz.lays7_26 x y b hb w
end Go.Proofs

namespace Go.Proofs.YtolghagbpnjpgaaGreatDoor
open Go.RowKit

theorem Tryz.infoU32 : (Tryz.prog.info? 96).map (fun i => (i.zero, i.size, i.bytes)) = some (some (.int .u32 0), 1, 4) := by kernel_rfl

theorem Tryz.sizeU32 : (Tryz.prog.info? 96).map (·.size) = some 1 := by kernel_rfl

/-- 'make([]uint32, n)': a new block of zeros -/
theorem wpList_make_u32 (w : World) {ops : Array Oper} {rest : List Oper} {o : Oper} {a : Act} {Q : Exit → Act → World → Prop}
    (hg : o.guard = none) (l c : Operand) (hop : o.op = Op.makeSlice 29 l c) (L : Int) (n : Nat)
    (hl : a.eval l = .int .i64 L) (hc : a.eval c = .int .i64 L) (hL : L = (n : Int)) (hn : n ≤ 1099511627776)
    (hK : ∀ w', Blk w' w.heap.size (List.replicate n 0) → Below w.heap.size w w' → wpList Tryz.prog ops Q rest (a.put o.dst (.slice (some ⟨w.heap.size, 0, none⟩) n n)) w') :
    wpList Tryz.prog ops Q (o :: rest) a w := by
  obtain ⟨i0, hi, hz0, hz1, hz2⟩ := info_parts Tryz.infoU32
  refine wpList_make_full w hg l c 29 hop w.heap.size 96 i0 (.int .u32 0) 1 Tryz.underlying29 hi hz0 hz1 _ _ _ _ n hl hc hL hL (by rw [hz2]; omega) (by unfold maxLen; omega) (Nat.le_refl _) ?_
  intro w' ho hgr
  exact hK w' (blk_made ho rfl) ((Below.refl _ w).grown hgr (Nat.le_refl _) (fun k hk => by cases hk))

set_option maxRecDepth 100000 in
set_option maxHeartbeats 400000 in
theorem clone_any (ao : Option Addr) (n cap : Nat) (zs : List Int) (w : World) (h : Sl w ao n cap zs) :
    Calls Tryz.prog 215 #[.slice ao n cap] w fun e w' => e = .returned (.slice (some ⟨w.heap.size, 0, none⟩) n n) ∧ Blk w' w.heap.size zs ∧ Below w.heap.size w w' := by
  have hn := h.big
  go_enter Tryz.func215, Tryz.ntmps215
  go_wp2_with (refine wpList_make_u32 _ rfl _ _ rfl _ n rfl rfl rfl hn ?_)
  intro w1 hb1 hw1
  go_wp2_with (with_reducible refine wpList_copy_u32 rfl (.tmp 7) (.tmp 8) rfl Tryz.underlying29 Tryz.sizeU32 _ 0 n n ao n cap rfl rfl _ hb1 zs (h.below hw1) (Nat.le_refl _) (by simp) ?_)
  intro w2 hb2 hw2
  go_wp2
  go_ret
  refine ⟨rfl, ?_, hw1.trans (hw2.below (Nat.le_refl _))⟩
  have := h.len
  simpa [splice, this] using hb2
end Go.Proofs.YtolghagbpnjpgaaGreatDoor

namespace Go.Proofs.YtolghagbpnjpgaaGreatDoor
open Go.RowKit

set_option maxRecDepth 100000 in
set_option maxHeartbeats 400000 in
theorem signed_zero (nb : Bool) (ao : Option Addr) (cap : Nat) (w : World) :
    Calls Tryz.prog 188 #[.bool nb, .slice ao 0 cap] w fun e w' => e = .returned (.agg #[.bool false, .slice none 0 0]) ∧ Below w.heap.size w w' := by
  go_enter Tryz.func188, Tryz.ntmps188
  go_wp2
  exact bodyPost_ret (v := .agg #[.bool false, .slice none 0 0]) (by simp [results, Tryz.results188, go_sem]) rfl ⟨rfl, ((Below.refl _ _).alloc (Nat.le_refl _) _)⟩
set_option maxRecDepth 100000 in
set_option maxHeartbeats 400000 in
theorem signed_pos (nb : Bool) (ao : Option Addr) (n cap : Nat) (w : World) (h : 0 < n) :
    Calls Tryz.prog 188 #[.bool nb, .slice ao n cap] w fun e w' => e = .returned (.agg #[.bool nb, .slice ao n cap]) ∧ Below w.heap.size w w' := by
  have hn : ((n : Int) == 0) = false := beq_eq_false_iff_ne.2 (by omega)
  go_enter Tryz.func188, Tryz.ntmps188
  go_wp2
  exact bodyPost_ret (v := .agg #[.bool nb, .slice ao n cap]) (by simp [results, Tryz.results188, go_sem]) rfl ⟨rfl, ((Below.refl _ _).alloc (Nat.le_refl _) _)⟩

/-- whatever the limbs: they stay, and zero is not negative -/
theorem signed_any (nb : Bool) (ao : Option Addr) (n cap : Nat) (zs : List Int) (w : World) (h : Sl w ao n cap zs) :
    Calls Tryz.prog 188 #[.bool nb, .slice ao n cap] w fun e w' => ∃ ao' cap', e = .returned (.agg #[.bool (nb && decide (0 < n)), .slice ao' n cap']) ∧ Sl w' ao' n cap' zs ∧ Below w.heap.size w w' := by
  by_cases h0 : 0 < n
  · refine (signed_pos nb ao n cap w h0).mono fun e w' ⟨he, hw⟩ => ⟨ao, cap, ?_, h.below hw, hw⟩
    rw [he]; simp [h0]
  · obtain rfl : n = 0 := by omega
    have hz : zs = [] := List.eq_nil_of_length_eq_zero h.len
    subst hz
    exact (signed_zero nb ao cap w).mono fun e w' ⟨he, hw⟩ => ⟨none, 0, by rw [he]; simp, Sl.nil w', hw⟩
end Go.Proofs.YtolghagbpnjpgaaGreatDoor

namespace Go.Proofs.YtolghagbpnjpgaaGreatDoor
open Go.RowKit

set_option maxRecDepth 100000 in
set_option maxHeartbeats 1000000 in
theorem addTo_any (g n cap m cb : Nat) (bo : Option Addr) (L ys : List Int) (w : World) (hL : Blk w g L) (hl : L.length = n) (hw : Wf L) (hn : n ≤ 1099511627776)
    (hbl : ys.length = m) (hbw : Wf ys) (hmn : m ≤ n) (hst : Stay g w bo ys) (hfit : num L + num ys < 4294967296 ^ n) :
    Calls Tryz.prog 217 #[.slice (some ⟨g, 0, none⟩) n cap, .slice bo m cb] w fun e w' => e = .returned (.tuple #[]) ∧ ∃ L', Blk w' g L' ∧ L'.length = n ∧ Wf L' ∧ num L' = num L + num ys ∧ Only g w w' := by
  have HL := Lib.hid hl; clear hl
  have HB := Lib.hid hbl; clear hbl
  have HF := Lib.hid hfit; clear hfit
  go_enter Tryz.func217, Tryz.ntmps217
  go_wp2
  go_loopw [4, 5, 6, 10] (fun c i x j wr => ∃ (k : Nat) (cc : Int) (Lk : List Int), k ≤ m ∧ j = .int .i64 k ∧ c = .int .u64 cc ∧ 0 ≤ cc ∧ cc ≤ 1 ∧ Added L Lk k cc (num (ys.take k)) ∧ Blk wr g Lk ∧ Only g w wr)
    (fun _ _ _ j _ => m - (intOf j).toNat)
  case atStart => exact ⟨0, 0, L, Nat.zero_le _, rfl, rfl, by omega, by omega, Added.start hw, hL, Only.refl g w⟩
  case round =>
    obtain ⟨k, cc, Lk, hk, rfl, rfl, hc0, hc1, hA, hbk, ho⟩ := hrel
    by_cases hlt : k < m
    · obtain ⟨bb, ob, rfl, hcb⟩ := hst _ ho (by rw [HB.out]; omega)
      have c1 := hcb k (by rw [HB.out]; omega)
      clear hcb
      have c2 := hbk.cell k (by rw [hA.1, HL.out]; omega)
      have c3 := hbk.frozen k
      rw [getD_of_drop hA.2.2.1] at c2
      have hxr := hw.getD k
      have hyr := hbw.getD k
      obtain ⟨x, hx⟩ : ∃ x, L.getD k 0 = x := ⟨_, rfl⟩
      obtain ⟨y, hy⟩ : ∃ y, ys.getD k 0 = y := ⟨_, rfl⟩
      rw [hx] at c2 hxr
      rw [hy] at c1 hyr
      have HX := Lib.hid hx; clear hx
      have HY := Lib.hid hy; clear hy
      obtain ⟨x0, x1⟩ := hxr
      obtain ⟨y0, y1⟩ := hyr
      go_wp2
      go_roundw
      case rel =>
        have st := hA.step (by rw [HL.out]; omega) y (cc + (x + y)) (by rw [HX.out])
        rw [← HY.out, ← num_take_succ ys k (by rw [HB.out]; exact hlt), HY.out] at st
        exact ⟨k + 1, _, _, by omega, by go_num, rfl, by omega, by omega, st, hbk.set _ _, ho.setCell _ _⟩
      case measure => simp [intOf] <;> omega
    · obtain rfl : k = m := by omega
      have HA := Lib.hid hA; clear hA
      go_wp2
      go_loopw [4, 7] (fun c j wr => ∃ (k : Nat) (cc : Int) (Lk : List Int), k ≤ n ∧ j = .int .i64 k ∧ c = .int .u64 cc ∧ 0 ≤ cc ∧ cc ≤ 1 ∧ Added L Lk k cc (num ys) ∧ Blk wr g Lk ∧ Only g w wr)
        (fun c j _ => (n - (intOf j).toNat) + (intOf c).toNat)
      case atStart =>
        have := HA.out
        rw [List.take_of_length_le (by rw [HB.out]; exact Nat.le_refl _)] at this
        exact ⟨k, cc, Lk, by omega, rfl, rfl, hc0, hc1, this, hbk, ho⟩
      case round =>
        obtain ⟨i, cc, Li, hi, rfl, rfl, hc0, hc1, hA, hbk, ho⟩ := hrel
        by_cases hcc : 0 < cc
        · have hin : i < n := by have := hA.fits (by rw [HL.out]; exact hi) (by rw [HL.out]; exact HF.out) hcc; rw [HL.out] at this; exact this
          have c2 := hbk.cell i (by rw [hA.1, HL.out]; omega)
          have c3 := hbk.frozen i
          rw [getD_of_drop hA.2.2.1] at c2
          have hxr := hw.getD i
          obtain ⟨x, hx⟩ : ∃ x, L.getD i 0 = x := ⟨_, rfl⟩
          rw [hx] at c2 hxr
          have HX := Lib.hid hx; clear hx
          obtain ⟨x0, x1⟩ := hxr
          by_cases hx9 : x = 4294967295
          · subst hx9
            go_wp2
            go_roundw
            case rel =>
              have st := hA.step (by rw [HL.out]; omega) 0 4294967296 (by rw [HX.out]; omega)
              have e1 : (4294967296 : Int) % 4294967296 = 0 := by omega
              have e2 : (4294967296 : Int) / 4294967296 = cc := by omega
              rw [e1, e2, Int.mul_zero, Int.add_zero] at st
              exact ⟨i + 1, _, _, by omega, by go_num, rfl, hc0, hc1, st, hbk.set _ _, ho.setCell _ _⟩
            case measure => simp [intOf] <;> omega
          · have h9 : (x + 1 != 0) = true := by simp; omega
            go_wp2
            go_roundw
            case rel =>
              have st := hA.step (by rw [HL.out]; omega) 0 (x + 1) (by rw [HX.out]; omega)
              have e1 : (x + 1) % 4294967296 = x + 1 := by omega
              have e2 : (x + 1) / 4294967296 = 0 := by omega
              rw [e1, e2, Int.mul_zero, Int.add_zero] at st
              exact ⟨i + 1, _, _, by omega, by go_num, rfl, by omega, by omega, st, hbk.set _ _, ho.setCell _ _⟩
            case measure => simp [intOf] <;> omega
        · obtain rfl : cc = 0 := by omega
          go_wp2
          go_end0
          have hd := hA.done
          exact ⟨rfl, Li, hbk, by rw [hA.1, HL.out], hA.2.1, hd, ho⟩
end Go.Proofs.YtolghagbpnjpgaaGreatDoor
