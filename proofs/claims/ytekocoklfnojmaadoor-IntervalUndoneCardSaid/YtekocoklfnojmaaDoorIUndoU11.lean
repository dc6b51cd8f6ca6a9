import Derived.Test.YtekocoklfnojmaaDoorIUndoU4
import Derived.Test.YtekocoklfnojmaaDoorIUndoU5
import Derived.Test.YtekocoklfnojmaaDoorIUndoU2
namespace Go.Proofs.YtekocoklfnojmaaDoor
open Go.RowKit

theorem ret_bool {a b : Bool} (h : a = b) : Ending.returned (.bool a) = .returned (.bool b) := by rw [h]
theorem ret_int {k : IntKind} {a b : Int} (h : a = b) : Ending.returned (.int k a) = .returned (.int k b) := by rw [h]

def nanB (f : Nat) : Bool := decide (9218868437227405312 < fmag f)
def infB (f : Nat) : Bool := decide (fmag f = 9218868437227405312)
def zeroB (f : Nat) : Bool := decide (fmag f = 0)
/-- the kind of a float -/
def fkind (f : Nat) : Int := if fmag f = 0 then 0 else if fmag f < 9218868437227405312 then 1 else if fmag f = 9218868437227405312 then 2 else 3
def fnegF (f : Nat) : Nat := if nanB f then 9221120237041090560 else sgz (!fneg f) + fmag f
def fabsF (f : Nat) : Nat := if nanB f then 9221120237041090560 else fmag f
/-- the place in the order -/
def frank (f : Nat) : Int := if fneg f then -(fmag f : Int) else (fmag f : Int)
set_option maxRecDepth 100000 in
theorem isNaN_any (f : Nat) (hf : f < 18446744073709551616) (w : World) :
    Calls Tryd.prog 33 #[.int .u64 (f : Int)] w fun e w' => e = .returned (.bool (nanB f)) ∧ w = w' := by
  have ha := andNot_sign hf
  have hm := fmag_lt f
  unfold nanB
  generalize fmag f = m at *
  go_enter Tryd.func33, Tryd.ntmps33
  go_wp2
  go_ret
  exact ⟨ret_bool (by first | rfl | exact decide_eq_decide.2 (by omega) | (rw [Bool.eq_iff_iff]; simp; try omega)), rfl⟩

set_option maxRecDepth 100000 in
theorem isInf_any (f : Nat) (hf : f < 18446744073709551616) (w : World) :
    Calls Tryd.prog 59 #[.int .u64 (f : Int)] w fun e w' => e = .returned (.bool (infB f)) ∧ w = w' := by
  have ha := andNot_sign hf
  have hm := fmag_lt f
  unfold infB
  generalize fmag f = m at *
  go_enter Tryd.func59, Tryd.ntmps59
  go_wp2
  go_ret
  exact ⟨ret_bool (by first | rfl | exact decide_eq_decide.2 (by omega) | (rw [Bool.eq_iff_iff]; simp; try omega)), rfl⟩

set_option maxRecDepth 100000 in
theorem isZero_any (f : Nat) (hf : f < 18446744073709551616) (w : World) :
    Calls Tryd.prog 60 #[.int .u64 (f : Int)] w fun e w' => e = .returned (.bool (zeroB f)) ∧ w = w' := by
  have ha := andNot_sign hf
  have hm := fmag_lt f
  unfold zeroB
  generalize fmag f = m at *
  go_enter Tryd.func60, Tryd.ntmps60
  go_wp2
  go_ret
  exact ⟨ret_bool (by first | rfl | exact decide_eq_decide.2 (by omega) | (rw [Bool.eq_iff_iff]; simp; try omega)), rfl⟩

set_option maxRecDepth 100000 in
theorem isNegative_any (f : Nat) (hf : f < 18446744073709551616) (w : World) :
    Calls Tryd.prog 64 #[.int .u64 (f : Int)] w fun e w' => e = .returned (.bool (fneg f)) ∧ w = w' := by
  have ha := and_sign hf
  cases hn : fneg f
  all_goals
    rw [hn] at ha
    clear hn
    unfold sgz at ha
    simp only [if_true, Bool.false_eq_true, if_false] at ha
    go_enter Tryd.func64, Tryd.ntmps64
    go_wp2
    go_ret
    exact ⟨ret_bool (by first | rfl | decide | simp), rfl⟩

set_option maxRecDepth 100000 in
theorem signOf_any (f : Nat) (hf : f < 18446744073709551616) (w : World) :
    Calls Tryd.prog 46 #[.int .u64 (f : Int)] w fun e w' => e = .returned (.int .u64 ((sgz (fneg f) : Nat) : Int)) ∧ w = w' := by
  have ha := and_sign hf
  generalize sgz (fneg f) = z at *
  go_enter Tryd.func46, Tryd.ntmps46
  go_wp2
  go_ret
  exact ⟨rfl, rfl⟩

set_option maxRecDepth 100000 in
theorem cancelled_any (mode : Int) (w : World) :
    Calls Tryd.prog 68 #[.int .i64 mode] w fun e w' => e = .returned (.int .u64 ((cancel mode : Nat) : Int)) ∧ w = w' := by
  unfold cancel
  by_cases h : mode = 1
  all_goals
    go_enter Tryd.func68, Tryd.ntmps68
    go_wp2
    go_ret
    exact ⟨ret_int (by first | rfl | (rw [if_pos h]; rfl) | (rw [if_neg h]; rfl)), rfl⟩

theorem fkind_cases (f : Nat) : fmag f = 0 ∧ fkind f = 0 ∨ fmag f ≠ 0 ∧ fmag f < 9218868437227405312 ∧ fkind f = 1 ∨ fmag f = 9218868437227405312 ∧ fkind f = 2 ∨ 9218868437227405312 < fmag f ∧ fkind f = 3 := by
  unfold fkind
  by_cases h0 : fmag f = 0
  · left; exact ⟨h0, if_pos h0⟩
  · right
    by_cases h1 : fmag f < 9218868437227405312
    · left; exact ⟨h0, h1, by rw [if_neg h0, if_pos h1]⟩
    · right
      by_cases h2 : fmag f = 9218868437227405312
      · left; exact ⟨h2, by rw [if_neg h0, if_neg h1, if_pos h2]⟩
      · right; exact ⟨by omega, by rw [if_neg h0, if_neg h1, if_neg h2]⟩

set_option maxRecDepth 100000 in
theorem kind_any (f : Nat) (hf : f < 18446744073709551616) (w : World) :
    Calls Tryd.prog 71 #[.int .u64 (f : Int)] w fun e w' => e = .returned (.int .i64 (fkind f)) ∧ w = w' := by
  have ha := andNot_sign hf
  have hc := fkind_cases f
  generalize fkind f = k at *
  generalize fmag f = m at *
  rcases hc with ⟨h0, rfl⟩ | ⟨h0, h1, rfl⟩ | ⟨h0, rfl⟩ | ⟨h0, rfl⟩
  · have b0 : ((m : Int) == 0) = true := by simp; omega
    clear h0
    go_enter Tryd.func71, Tryd.ntmps71
    go_wp2
    go_ret
    exact ⟨rfl, rfl⟩
  · have b0 : ((m : Int) == 0) = false := by simp; omega
    have b1 : (m : Int) < 9218868437227405312 := by omega
    clear h0 h1
    go_enter Tryd.func71, Tryd.ntmps71
    go_wp2
    go_ret
    exact ⟨rfl, rfl⟩
  · have b0 : ((m : Int) == 0) = false := by simp; omega
    have b1 : ¬ (m : Int) < 9218868437227405312 := by omega
    have b2 : ((m : Int) == 9218868437227405312) = true := by rw [beq_iff_eq]; omega
    clear h0
    go_enter Tryd.func71, Tryd.ntmps71
    go_wp2
    go_ret
    exact ⟨rfl, rfl⟩
  · have b0 : ((m : Int) == 0) = false := by simp; omega
    have b1 : ¬ (m : Int) < 9218868437227405312 := by omega
    have b2 : ((m : Int) == 9218868437227405312) = false := by rw [beq_eq_false_iff_ne]; omega
    clear h0
    go_enter Tryd.func71, Tryd.ntmps71
    go_wp2
    go_ret
    exact ⟨rfl, rfl⟩

def finB (f : Nat) : Bool := decide (fmag f < 9218868437227405312)
set_option maxRecDepth 100000 in
theorem isFinite_any (f : Nat) (hf : f < 18446744073709551616) (w : World) :
    Calls Tryd.prog 40 #[.int .u64 (f : Int)] w fun e w' => e = .returned (.bool (finB f)) ∧ w = w' := by
  have ha := andNot_sign hf
  have hb : finB f = decide ((fmag f : Int) < 9218868437227405312) := decide_eq_decide.2 (by omega)
  rw [hb]
  clear hb
  generalize fmag f = m at *
  go_enter Tryd.func40, Tryd.ntmps40
  go_wp2
  go_ret
  exact ⟨rfl, rfl⟩

set_option maxRecDepth 100000 in
theorem negF_any (f : Nat) (hf : f < 18446744073709551616) (w : World) :
    Calls Tryd.prog 41 #[.int .u64 (f : Int)] w fun e w' => e = .returned (.int .u64 ((fnegF f : Nat) : Int)) ∧ w = w' := by
  have ha := xor_sign hf
  unfold fnegF
  generalize sgz (!fneg f) + fmag f = v at *
  cases hn : nanB f
  all_goals
    have HN := Lib.hid hn
    clear hn
    go_enter Tryd.func41, Tryd.ntmps41
    go_wp2_with (go_at_call 33; refine (isNaN_any f hf _).mono ?_; rw [HN.out]; rintro e w' ⟨rfl, rfl⟩)
    go_ret
    exact ⟨rfl, rfl⟩

set_option maxRecDepth 100000 in
theorem absF_any (f : Nat) (hf : f < 18446744073709551616) (w : World) :
    Calls Tryd.prog 45 #[.int .u64 (f : Int)] w fun e w' => e = .returned (.int .u64 ((fabsF f : Nat) : Int)) ∧ w = w' := by
  have ha := andNot_sign hf
  unfold fabsF
  generalize fmag f = v at *
  cases hn : nanB f
  all_goals
    have HN := Lib.hid hn
    clear hn
    go_enter Tryd.func45, Tryd.ntmps45
    go_wp2_with (go_at_call 33; refine (isNaN_any f hf _).mono ?_; rw [HN.out]; rintro e w' ⟨rfl, rfl⟩)
    go_ret
    exact ⟨rfl, rfl⟩

set_option maxRecDepth 100000 in
theorem rank_any (f : Nat) (hf : f < 18446744073709551616) (w : World) :
    Calls Tryd.prog 35 #[.int .u64 (f : Int)] w fun e w' => e = .returned (.int .i64 (frank f)) ∧ w = w' := by
  have ha := andNot_sign hf
  have hm := fmag_lt f
  unfold frank
  generalize fmag f = m at *
  cases hn : fneg f
  all_goals
    have HN := Lib.hid hn
    clear hn
    go_enter Tryd.func35, Tryd.ntmps35
    go_wp2_with (go_at_call 64; refine (isNegative_any f hf _).mono ?_; rw [HN.out]; rintro e w' ⟨rfl, rfl⟩)
    go_ret
    exact ⟨ret_int (by first | rfl | simp | (simp; omega)), rfl⟩

theorem fnegF_lt {f : Nat} : fnegF f < 18446744073709551616 := by
  unfold fnegF
  have := fmag_lt f
  have := sgz_le (!fneg f)
  split <;> omega
end Go.Proofs.YtekocoklfnojmaaDoor
