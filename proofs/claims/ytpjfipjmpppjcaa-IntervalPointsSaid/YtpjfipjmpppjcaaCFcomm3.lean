/- Sums commute, as plain facts. -/
import Derived.Test.YtpjfipjmpppjcaaCFcomm
namespace Go.Proofs.Ytpjfipjmpppjcaa

theorem inf_val {a : Nat} (ha : a < 18446744073709551616) (hi : infB a = true) : 9218868437227405312 + sgz (fneg a) = a := by
  have hp := f_parts ha
  have hm : fmag a = 9218868437227405312 := of_decide_eq_true hi
  omega
theorem zero_val {a : Nat} (ha : a < 18446744073709551616) (hz : zeroB a = true) : sgz (fneg a) = a := by
  have hp := f_parts ha
  have hm : fmag a = 0 := of_decide_eq_true hz
  omega
theorem zero_not {a : Nat} (hz : zeroB a = true) : nanB a = false ∧ infB a = false ∧ fmag a = 0 ∧ fz a = 0 := by
  have hm : fmag a = 0 := of_decide_eq_true hz
  exact ⟨decide_eq_false (by omega), decide_eq_false (by omega), hm, (fz_zero a).2 hm⟩
theorem inf_not {a : Nat} (hi : infB a = true) : nanB a = false ∧ zeroB a = false := by
  have hm : fmag a = 9218868437227405312 := of_decide_eq_true hi
  exact ⟨decide_eq_false (by omega), decide_eq_false (by omega)⟩
theorem xor_false (b : Bool) : (b != false) = b := by cases b <;> rfl

/-- a sum, written out -/
theorem add_form (a b : Nat) (mode : Int) : fmaF a 4607182418800017408 b mode =
    if nanB a || nanB b then 9221120237041090560
    else if infB a && infB b && decide (b ≠ 9218868437227405312 + sgz (fneg a)) then 9221120237041090560
    else if infB a then 9218868437227405312 + sgz (fneg a)
    else if zeroB a && zeroB b && decide (b ≠ sgz (fneg a)) then cancel mode
    else if infB b || zeroB a then b
    else rsum (sgi (fneg a) (fz a * 2 ^ low74) + sgi (fneg b) (fz b * 2 ^ low74)) (-2148) mode := by
  obtain ⟨o1, o2, o3, o4⟩ := one_facts
  unfold fmaF
  rw [o1, o2, o3, o4, xor_false, fz_one]
  simp only [Bool.or_false]
  by_cases h : infB a = true
  · obtain ⟨h1, h2⟩ := inf_not h
    rw [h, h1, h2]
    simp
  · rw [Bool.not_eq_true] at h
    rw [h]
    simp

theorem faddF_comm {a b : Nat} (ha : a < 18446744073709551616) (hb : b < 18446744073709551616) (mode : Int) : faddF a b mode = faddF b a mode := by
  unfold faddF
  rw [add_form, add_form, Bool.or_comm (nanB b) (nanB a)]
  cases hna : nanB a
  · cases hnb : nanB b
    · simp only [Bool.or_false, Bool.false_eq_true, if_false]
      cases hia : infB a
      · cases hib : infB b
        · simp only [Bool.false_and, Bool.false_eq_true, if_false, Bool.false_or]
          cases hza : zeroB a
          · cases hzb : zeroB b
            · simp only [Bool.false_and, Bool.false_eq_true, if_false]
              rw [Int.add_comm]
            · simp only [Bool.false_and, Bool.and_false, Bool.false_eq_true, if_false, if_true]
              obtain ⟨h1, h2, h3, h4⟩ := zero_not hzb
              have := fma_one (c := b) mode ha hna hza h3 h1 h2
              rw [add_form, hna, hnb, hia, hza, hib] at this
              simpa using this
          · cases hzb : zeroB b
            · simp only [Bool.false_and, Bool.and_false, Bool.false_eq_true, if_false, if_true]
              obtain ⟨h1, h2, h3, h4⟩ := zero_not hza
              have := fma_one (c := a) mode hb hnb hzb h3 h1 h2
              rw [add_form, hna, hnb, hib, hzb, hia] at this
              simpa using this.symm
            · have e1 := zero_val ha hza
              have e2 := zero_val hb hzb
              rw [e1, e2]
              simp only [Bool.true_and, if_true]
              by_cases hab : a = b
              · subst hab; simp
              · rw [decide_eq_true (show b ≠ a from fun h => hab h.symm), decide_eq_true (show a ≠ b from hab)]
                simp
        · obtain ⟨h1, h2⟩ := inf_not hib
          rw [inf_val hb hib, h2]
          simp
      · obtain ⟨h1, h2⟩ := inf_not hia
        cases hib : infB b
        · rw [inf_val ha hia, h2]
          simp
        · rw [inf_val ha hia, inf_val hb hib]
          simp only [Bool.true_and, if_true]
          by_cases hab : a = b
          · subst hab; simp
          · rw [decide_eq_true (show b ≠ a from fun h => hab h.symm), decide_eq_true (show a ≠ b from hab)]
            simp
    · simp
  · simp

end Go.Proofs.Ytpjfipjmpppjcaa
