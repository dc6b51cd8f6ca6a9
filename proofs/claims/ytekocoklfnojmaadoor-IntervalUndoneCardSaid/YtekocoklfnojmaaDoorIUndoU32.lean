import Derived.Test.YtekocoklfnojmaaDoorIUndoU22
import Derived.Test.YtekocoklfnojmaaDoorIUndoU17
import Derived.Test.YtekocoklfnojmaaDoorIUndoU6
import Derived.Laws.AppendOwn
import Derived.OwnWalk
import Derived.Test.YtekocoklfnojmaaDoorIUndoU23
import Derived.Deep.QuietTactic
import Derived.BigQuiet
import Derived.Deep.RegionWith
import Derived.Deep.CutRange
import Derived.Test.YtekocoklfnojmaaDoorIUndoU24
import Derived.Deep.CutBlock
import Derived.LoopTactic
import Derived.Test.YtekocoklfnojmaaDoorIUndoU31
import Derived.Test.YtekocoklfnojmaaDoorIUndoU18
import Derived.Laws.Bits64
import Derived.Test.YtekocoklfnojmaaDoorIUndoU7
import Derived.Test.YtekocoklfnojmaaDoorIUndoU16
import Derived.Deep.RegionHeld3
import Derived.Test.YtekocoklfnojmaaDoorIUndoU2
import Derived.Laws.Bits64b
import Derived.Test.YtekocoklfnojmaaDoorIUndoU19
import Derived.Test.YtekocoklfnojmaaDoorIUndoU15
import Derived.Test.YtekocoklfnojmaaDoorIUndoU20
import Derived.Test.YtekocoklfnojmaaDoorIUndoU26
namespace Go.Proofs.YtekocoklfnojmaaDoor
open Go.RowKit

/-- is a float an element? -/
def contF (lo hi f : Nat) : Bool := validF lo hi && finB f && decide (frank lo ≤ frank f) && decide (frank f ≤ frank hi)

theorem rank_is_inf {f : Nat} (hf : f < 18446744073709551616) : frank f = 9218868437227405312 ↔ f = 9218868437227405312 := by
  unfold frank fneg fmag
  by_cases h : 9223372036854775808 ≤ f
  · rw [decide_eq_true h, if_pos rfl]; omega
  · rw [decide_eq_false h, if_neg (by simp)]; omega
theorem rank_is_ninf {f : Nat} (hf : f < 18446744073709551616) : frank f = -9218868437227405312 ↔ f = 18442240474082181120 := by
  unfold frank fneg fmag
  by_cases h : 9223372036854775808 ≤ f
  · rw [decide_eq_true h, if_pos rfl]; omega
  · rw [decide_eq_false h, if_neg (by simp)]; omega
theorem rank_le {f : Nat} (h : nanB f = false) : -9218868437227405312 ≤ frank f ∧ frank f ≤ 9218868437227405312 := by
  have h1 : ¬ 9218868437227405312 < fmag f := of_decide_eq_false h
  unfold frank
  split <;> omega
theorem valid_iff {lo hi : Nat} (hl : lo < 18446744073709551616) (hh : hi < 18446744073709551616) : validF lo hi = true ↔ nanB lo = false ∧ nanB hi = false ∧ frank lo ≤ frank hi ∧ frank lo < 9218868437227405312 ∧ -9218868437227405312 < frank hi := by
  unfold validF
  simp only [Bool.and_eq_true, Bool.not_eq_true', decide_eq_true_eq]
  constructor
  · rintro ⟨⟨⟨⟨h1, h2⟩, h3⟩, h4⟩, h5⟩
    have a1 := rank_le h1
    have a2 := rank_le h2
    refine ⟨h1, h2, h3, ?_, ?_⟩
    · have : frank lo ≠ 9218868437227405312 := fun e => h4 ((rank_is_inf hl).1 e)
      omega
    · have : frank hi ≠ -9218868437227405312 := fun e => h5 ((rank_is_ninf hh).1 e)
      omega
  · rintro ⟨h1, h2, h3, h4, h5⟩
    refine ⟨⟨⟨⟨h1, h2⟩, h3⟩, fun e => ?_⟩, fun e => ?_⟩
    · have := (rank_is_inf hl).2 e; omega
    · have := (rank_is_ninf hh).2 e; omega
theorem fin_rank_lt {f : Nat} (h : finB f = true) : -9218868437227405312 < frank f ∧ frank f < 9218868437227405312 := by
  have h1 : fmag f < 9218868437227405312 := of_decide_eq_true h
  unfold frank
  split <;> omega

theorem plain_facts (f : Nat) : nanB (plainF f) = nanB f ∧ frank (plainF f) = frank f := by
  unfold plainF
  split
  · rename_i h; subst h; decide
  · exact ⟨rfl, rfl⟩
theorem plainF_lt {f : Nat} (h : f < 18446744073709551616) : plainF f < 18446744073709551616 := by unfold plainF; split <;> omega
theorem more_step {m f : Nat} (hm : nanB m = false) (hf : nanB f = false) : nanB (if lessF m f then f else m) = false ∧ frank (if lessF m f then f else m) = max (frank m) (frank f) := by
  unfold lessF
  rw [hm, hf]
  by_cases h : frank m < frank f
  · rw [decide_eq_true h]; exact ⟨hf, by simp; omega⟩
  · rw [decide_eq_false h]; exact ⟨hm, by simp; omega⟩
theorem less_step {m f : Nat} (hm : nanB m = false) (hf : nanB f = false) : nanB (if lessF f m then f else m) = false ∧ frank (if lessF f m then f else m) = min (frank m) (frank f) := by
  unfold lessF
  rw [hm, hf]
  by_cases h : frank f < frank m
  · rw [decide_eq_true h]; exact ⟨hf, by simp; omega⟩
  · rw [decide_eq_false h]; exact ⟨hm, by simp; omega⟩
theorem great_two {a c : Nat} (ha : nanB a = false) (hc : nanB c = false) : nanB (greatF [a, c]) = false ∧ frank (greatF [a, c]) = max (frank a) (frank c) := by
  obtain ⟨h1, h2⟩ := more_step (m := 18442240474082181120) (by decide) ha
  obtain ⟨h3, h4⟩ := more_step h1 hc
  refine ⟨h3, ?_⟩
  show frank (if lessF (if lessF 18442240474082181120 a then a else 18442240474082181120) c then c else (if lessF 18442240474082181120 a then a else 18442240474082181120)) = _
  rw [h4, h2, show frank 18442240474082181120 = -9218868437227405312 by decide]
  have := rank_le ha
  omega
theorem least_two {b d : Nat} (hb : nanB b = false) (hd : nanB d = false) : nanB (leastF [b, d]) = false ∧ frank (leastF [b, d]) = min (frank b) (frank d) := by
  obtain ⟨h1, h2⟩ := less_step (m := 9218868437227405312) (by decide) hb
  obtain ⟨h3, h4⟩ := less_step h1 hd
  refine ⟨h3, ?_⟩
  show frank (if lessF d (if lessF b 9218868437227405312 then b else 9218868437227405312) then d else (if lessF b 9218868437227405312 then b else 9218868437227405312)) = _
  rw [h4, h2, show frank 9218868437227405312 = 9218868437227405312 by decide]
  have := rank_le hb
  omega
theorem two_lt {a c : Nat} (ha : a < 18446744073709551616) (hc : c < 18446744073709551616) : (∀ x ∈ [a, c], x < 18446744073709551616) := by
  intro x hx
  rcases List.mem_cons.1 hx with rfl | hx
  · exact ha
  · rcases List.mem_cons.1 hx with rfl | hx
    · exact hc
    · cases hx

theorem less_rank {a b : Nat} (ha : nanB a = false) (hb : nanB b = false) : lessF a b = decide (frank a < frank b) := by unfold lessF; rw [ha, hb]; rfl
theorem sub_rank {a b c d : Nat} (h1 : validF a b = true) (h2 : validF c d = true) : subF a b c d = (decide (frank c ≤ frank a) && decide (frank b ≤ frank d)) := by
  unfold subF
  have e1 := h1
  have e2 := h2
  unfold validF at e1 e2
  simp only [Bool.and_eq_true, Bool.not_eq_true', decide_eq_true_eq] at e1 e2
  rw [h1, h2, less_rank e1.1.1.1.1 e2.1.1.1.1, less_rank e2.1.1.1.2 e1.1.1.1.2]
  simp only [Bool.true_and, ← decide_not, Int.not_lt]

section
variable {a b c d f : Nat} (ha : a < 18446744073709551616) (hb : b < 18446744073709551616) (hc : c < 18446744073709551616) (hd : d < 18446744073709551616)
include ha hb hc hd

end
end Go.Proofs.YtekocoklfnojmaaDoor

namespace Go.Proofs.YtekocoklfnojmaaDoor

theorem sgz_facts (s : Bool) : nanB (sgz s) = false ∧ infB (sgz s) = false ∧ zeroB (sgz s) = true ∧ fz (sgz s) = 0 := by
  cases s
  · exact ⟨by decide, by decide, by decide, (fz_zero _).2 (by decide)⟩
  · exact ⟨by decide, by decide, by decide, (fz_zero _).2 (by decide)⟩
theorem mul_form (a b : Nat) (mode : Int) : fmulF a b mode =
    if nanB a || nanB b || (infB a || infB b) && (zeroB a || zeroB b) then 9221120237041090560
    else if infB a || infB b then sgz (fneg a != fneg b) + 9218868437227405312
    else if zeroB a || zeroB b then sgz (fneg a != fneg b) + 0
    else rsum (sgi (fneg a != fneg b) (fz a * fz b)) (-2148) mode := by
  unfold fmulF fmaF
  generalize (fneg a != fneg b) = s
  obtain ⟨h1, h2, h3, h4⟩ := sgz_facts s
  rw [h1, h2, h3, h4, Nat.zero_mul, sgi_zero, Int.add_zero, Nat.add_comm 9218868437227405312]
  simp
theorem fzs_prod (a b : Nat) : fzs a * fzs b = sgi (fneg a != fneg b) (fz a * fz b) := by
  unfold fzs sgi
  cases fneg a <;> cases fneg b <;> simp [Int.neg_mul, Int.mul_neg]
end Go.Proofs.YtekocoklfnojmaaDoor

namespace Go.Proofs.YtekocoklfnojmaaDoor

theorem fma_num {a b c : Nat} (mode : Int) (ha : finB a = true) (hb : finB b = true) (hc : finB c = true) (hcl : c < 18446744073709551616) : nanB (fmaF a b c mode) = false ∧ fmaF a b c mode < 18446744073709551616 := by
  obtain ⟨a1, a2⟩ := fin_not ha
  obtain ⟨b1, b2⟩ := fin_not hb
  obtain ⟨c1, c2⟩ := fin_not hc
  unfold fmaF
  rw [a1, a2, b1, b2, c1, c2]
  simp only [Bool.or_false, Bool.false_or, Bool.false_and, Bool.false_eq_true, if_false]
  split
  · exact ⟨(cancel_num mode).1, (cancel_num mode).2.1⟩
  · split
    · exact ⟨c1, hcl⟩
    · exact rsum_num _ _ _
theorem add_num {a b : Nat} (mode : Int) (ha : finB a = true) (hb : finB b = true) (hbl : b < 18446744073709551616) : nanB (faddF a b mode) = false ∧ faddF a b mode < 18446744073709551616 := fma_num mode ha fin_one hb hbl
theorem mul_num {a b : Nat} (mode : Int) (ha : finB a = true) (hb : finB b = true) : nanB (fmulF a b mode) = false ∧ fmulF a b mode < 18446744073709551616 :=
  fma_num mode ha hb (fin_sgz _).1 (fin_sgz _).2.1

theorem mul_zero_left {a b : Nat} (mode : Int) (hz : zeroB a = true) (hfb : finB b = true) : fmag (fmulF a b mode) = 0 := by
  obtain ⟨b1, b2⟩ := fin_not hfb
  obtain ⟨z1, z2, z3, z4⟩ := zero_not hz
  obtain ⟨s1, s2, s3⟩ := fin_sgz (fneg a != fneg b)
  obtain ⟨s4, s5⟩ := fin_not s1
  unfold fmulF fmaF
  rw [z1, z2, b1, b2, s4, s5, hz]
  simp only [Bool.or_false, Bool.false_and, Bool.false_eq_true, if_false, Bool.true_or, Bool.true_and, Bool.or_true, if_true]
  split
  · exact (cancel_num mode).2.2
  · exact s3

theorem valid_point {f : Nat} (hf : finB f = true) : validF f f = true := by
  obtain ⟨h1, h2⟩ := fin_not hf
  have h3 : f ≠ 9218868437227405312 := by rintro rfl; cases hf
  have h4 : f ≠ 18442240474082181120 := by rintro rfl; cases hf
  unfold validF
  rw [h1]
  simp [h3, h4]
end Go.Proofs.YtekocoklfnojmaaDoor
