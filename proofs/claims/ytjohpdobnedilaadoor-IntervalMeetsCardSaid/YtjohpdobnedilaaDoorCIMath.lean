/- Sums and products of finite floats are no NaNs; zeros of both signs give equal numbers. Plain facts. -/
import Derived.Test.YtjohpdobnedilaaDoorCIMul
import Derived.Test.YtjohpdobnedilaaDoorGv
import Derived.Test.YtjohpdobnedilaaDoorHd
namespace Go.Proofs.YtjohpdobnedilaaDoor

theorem fma_num {a b c : Nat} (mode : Int) (ha : finB a = true) (hb : finB b = true) (hc : finB c = true) (hcl : c < 18446744073709551616) : nanB (fmaF a b c mode) = false ∧ fmaF a b c mode < 18446744073709551616 := by
  obtain ⟨a1, a2⟩ := fin_not ha
  obtain ⟨b1, b2⟩ := fin_not hb
  obtain ⟨c1, c2⟩ := fin_not hc
  unfold fmaF
  rw [a1, a2, b1, b2, c1, c2]
  simp only [Bool.or_false, Bool.false_or, Bool.false_and, Bool.false_eq_true, if_false]
  split
  · exact ⟨(cancel_num mode).1, (cancel_num mode).2.1⟩
  · split
    · exact ⟨c1, hcl⟩
    · exact rsum_num _ _ _
theorem add_num {a b : Nat} (mode : Int) (ha : finB a = true) (hb : finB b = true) (hbl : b < 18446744073709551616) : nanB (faddF a b mode) = false ∧ faddF a b mode < 18446744073709551616 := fma_num mode ha fin_one hb hbl
theorem mul_num {a b : Nat} (mode : Int) (ha : finB a = true) (hb : finB b = true) : nanB (fmulF a b mode) = false ∧ fmulF a b mode < 18446744073709551616 :=
  fma_num mode ha hb (fin_sgz _).1 (fin_sgz _).2.1

theorem fin_plain {a : Nat} (h : finB a = true) : finB (plainF a) = true := by
  unfold plainF; split
  · decide
  · exact h
theorem plain_lt {a : Nat} (h : a < 18446744073709551616) : plainF a < 18446744073709551616 := by unfold plainF; split <;> omega
theorem plain_rank (a : Nat) : frank (plainF a) = frank a ∧ nanB (plainF a) = nanB a := by
  unfold plainF
  split
  · rename_i h; subst h; decide
  · exact ⟨rfl, rfl⟩
theorem plain_zero {a : Nat} (h : zeroB a = true) : zeroB (plainF a) = true := by
  unfold plainF; split
  · decide
  · exact h

/-- a zero as the first summand -/
theorem add_zero_left {a b : Nat} (mode : Int) (hb : b < 18446744073709551616) (ha : a < 18446744073709551616) (hz : zeroB a = true) (hfb : finB b = true) : frank (faddF a b mode) = frank b := by
  obtain ⟨b1, b2⟩ := fin_not hfb
  obtain ⟨z1, z2, z3, z4⟩ := zero_not hz
  cases hzb : zeroB b
  · rw [faddF_comm ha hb]
    unfold faddF
    rw [fma_one mode hb b1 hzb z3 z1 z2]
  · obtain ⟨y1, y2, y3, y4⟩ := zero_not hzb
    rw [frank_zero y3]
    apply frank_zero
    unfold faddF
    rw [add_form, z1, b1, z2, b2, hz, hzb]
    simp only [Bool.or_false, Bool.false_and, Bool.false_eq_true, if_false, Bool.true_and, Bool.or_true, if_true]
    split
    · exact (cancel_num mode).2.2
    · exact y3
theorem mul_zero_left {a b : Nat} (mode : Int) (hz : zeroB a = true) (hfb : finB b = true) : fmag (fmulF a b mode) = 0 := by
  obtain ⟨b1, b2⟩ := fin_not hfb
  obtain ⟨z1, z2, z3, z4⟩ := zero_not hz
  obtain ⟨s1, s2, s3⟩ := fin_sgz (fneg a != fneg b)
  obtain ⟨s4, s5⟩ := fin_not s1
  unfold fmulF fmaF
  rw [z1, z2, b1, b2, s4, s5, hz]
  simp only [Bool.or_false, Bool.false_and, Bool.false_eq_true, if_false, Bool.true_or, Bool.true_and, Bool.or_true, if_true]
  split
  · exact (cancel_num mode).2.2
  · exact s3

theorem plain_cases (a : Nat) : plainF a = a ∨ zeroB a = true := by
  unfold plainF
  split
  · rename_i h; subst h; right; decide
  · left; rfl
/-- the sum of plain floats is the same number -/
theorem add_plain {a b : Nat} (mode : Int) (ha : a < 18446744073709551616) (hb : b < 18446744073709551616) (hfa : finB a = true) (hfb : finB b = true) : frank (faddF (plainF a) (plainF b) mode) = frank (faddF a b mode) := by
  have pa := plain_lt ha; have pb := plain_lt hb
  rcases plain_cases a with h | h
  · rw [h]
    rcases plain_cases b with h2 | h2
    · rw [h2]
    · rw [faddF_comm ha pb, faddF_comm ha hb, add_zero_left mode ha pb (plain_zero h2) hfa, add_zero_left mode ha hb h2 hfa]
  · rw [add_zero_left mode pb pa (plain_zero h) (fin_plain hfb), add_zero_left mode hb ha h hfb, (plain_rank b).1]
theorem mul_plain {a b : Nat} (mode : Int) (hfa : finB a = true) (hfb : finB b = true) : frank (fmulF (plainF a) (plainF b) mode) = frank (fmulF a b mode) := by
  rcases plain_cases a with h | h
  · rw [h]
    rcases plain_cases b with h2 | h2
    · rw [h2]
    · rw [fmulF_comm a, fmulF_comm a, frank_zero (mul_zero_left mode (plain_zero h2) hfa), frank_zero (mul_zero_left mode h2 hfa)]
  · rw [frank_zero (mul_zero_left mode (plain_zero h) (fin_plain hfb)), frank_zero (mul_zero_left mode h hfb)]

theorem less_self (r : Nat) : lessF r r = false := by unfold lessF; simp
theorem inf_top {r : Nat} (hr : r < 18446744073709551616) (hn : nanB r = false) (h : ¬ frank r < 9218868437227405312) : r = 9218868437227405312 := by
  have hp := f_parts hr
  have h1 : ¬ 9218868437227405312 < fmag r := of_decide_eq_false hn
  unfold frank at h
  cases hs : fneg r
  · rw [hs] at h hp
    simp at h
    unfold sgz at hp
    simp at hp
    omega
  · rw [hs] at h
    simp at h
    omega
theorem inf_bottom {r : Nat} (hr : r < 18446744073709551616) (hn : nanB r = false) (h : ¬ -9218868437227405312 < frank r) : r = 18442240474082181120 := by
  have hp := f_parts hr
  have h1 : ¬ 9218868437227405312 < fmag r := of_decide_eq_false hn
  unfold frank at h
  cases hs : fneg r
  · rw [hs] at h
    simp at h
    omega
  · rw [hs] at h hp
    simp at h
    unfold sgz at hp
    simp at hp
    omega
theorem least_four {r : Nat} (hr : r < 18446744073709551616) (hn : nanB r = false) : leastF [r, r, r, r] = r := by
  have e1 : frank 9218868437227405312 = 9218868437227405312 := by decide +kernel
  have e2 : nanB 9218868437227405312 = false := by decide
  have h : (if lessF r 9218868437227405312 then r else 9218868437227405312) = r := by
    unfold lessF
    rw [hn, e1, e2]
    by_cases h : frank r < 9218868437227405312
    · simp [h]
    · simp only [h, decide_false, Bool.and_false, Bool.false_eq_true, if_false]
      exact (inf_top hr hn h).symm
  unfold leastF
  simp only [List.foldl_cons, List.foldl_nil]
  rw [h, less_self]
  simp
theorem great_four {r : Nat} (hr : r < 18446744073709551616) (hn : nanB r = false) : greatF [r, r, r, r] = r := by
  have e1 : frank 18442240474082181120 = -9218868437227405312 := by decide +kernel
  have e2 : nanB 18442240474082181120 = false := by decide
  have h : (if lessF 18442240474082181120 r then r else 18442240474082181120) = r := by
    unfold lessF
    rw [hn, e1, e2]
    by_cases h : -9218868437227405312 < frank r
    · simp [h]
    · simp only [h, decide_false, Bool.and_false, Bool.false_eq_true, if_false]
      exact (inf_bottom hr hn h).symm
  unfold greatF
  simp only [List.foldl_cons, List.foldl_nil]
  rw [h, less_self]
  simp
theorem valid_point {f : Nat} (hf : finB f = true) : validF f f = true := by
  obtain ⟨h1, h2⟩ := fin_not hf
  have h3 : f ≠ 9218868437227405312 := by rintro rfl; cases hf
  have h4 : f ≠ 18442240474082181120 := by rintro rfl; cases hf
  unfold validF
  rw [h1]
  simp [h3, h4]
/-- equal numbers compare as equal -/
theorem cmp_same {a b : Nat} (ha : nanB a = false) (hb : nanB b = false) (h : frank a = frank b) : FcmpOut a b 0 true := fcmp_num ha hb (by unfold sgn3; rw [if_neg (by omega), if_neg (by omega)])
end Go.Proofs.YtjohpdobnedilaaDoor
