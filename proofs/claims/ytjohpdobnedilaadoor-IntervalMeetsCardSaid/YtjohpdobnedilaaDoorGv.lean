/- Fused products commute, and rounding a float to itself, as plain facts. -/
import Derived.Test.YtjohpdobnedilaaDoorGu
namespace Go.Proofs.YtjohpdobnedilaaDoor

theorem xne_comm (a b : Bool) : (a != b) = (b != a) := by cases a <;> cases b <;> rfl

theorem fmaF_comm (a b c : Nat) (mode : Int) : fmaF a b c mode = fmaF b a c mode := by
  unfold fmaF
  rw [Bool.or_comm (nanB b) (nanB a), Bool.or_comm (infB b) (infB a), Bool.or_comm (zeroB b) (zeroB a), xne_comm (fneg b) (fneg a), Nat.mul_comm (fz b) (fz a)]

theorem fmulF_comm (a b : Nat) (mode : Int) : fmulF a b mode = fmulF b a mode := by
  unfold fmulF
  rw [xne_comm (fneg b) (fneg a), fmaF_comm]

theorem fz_one : fz 4607182418800017408 = 2 ^ low74 := by decide +kernel

theorem one_facts : nanB 4607182418800017408 = false ∧ infB 4607182418800017408 = false ∧ zeroB 4607182418800017408 = false ∧ fneg 4607182418800017408 = false := by decide +kernel

/-- times one, and a zero added: the float itself, where it is not zero -/
theorem fma_one {a c : Nat} (mode : Int) (ha : a < 18446744073709551616) (hn : nanB a = false) (hz : zeroB a = false) (hc : fmag c = 0) (hc2 : nanB c = false) (hc3 : infB c = false) : fmaF a 4607182418800017408 c mode = a := by
  obtain ⟨o1, o2, o3, o4⟩ := one_facts
  have hp := f_parts ha
  have hx : (fneg a != false) = fneg a := by cases fneg a <;> rfl
  unfold fmaF
  rw [hn, hc2, o1, o2, o3, hz, hc3, o4, hx]
  simp only [Bool.or_false, Bool.and_false, Bool.false_eq_true, if_false, Bool.false_and]
  cases hi : infB a
  · simp only [Bool.false_eq_true, if_false]
    have hm : fmag a ≤ 9218868437227405312 := by
      have h1 : ¬ 9218868437227405312 < fmag a := of_decide_eq_false hn
      omega
    have hm2 : fmag a ≠ 9218868437227405312 := of_decide_eq_false hi
    have hm0 : fmag a ≠ 0 := of_decide_eq_false hz
    have hf0 : fz a ≠ 0 := fun h => hm0 ((fz_zero a).1 h)
    rw [(fz_zero c).2 hc, Nat.zero_mul, sgi_zero, Int.add_zero, fz_one]
    have hA : fz a * 2 ^ low74 ≠ 0 := Nat.mul_ne_zero hf0 (Nat.pos_iff_ne_zero.1 (Nat.pow_pos (by omega)))
    have hv := Num.unit (fz a) low74 (e := -1074) (m := -2148) (by decide)
    unfold rsum
    rw [if_neg (by unfold sgi; split <;> omega), rnd_sgi _ hA, ← hv.fla hf0, fla_fz _ hm0 (by omega)]
    exact hp.symm
  · simp only [if_true]
    have hm : fmag a = 9218868437227405312 := of_decide_eq_true hi
    rw [hm] at hp
    omega
end Go.Proofs.YtjohpdobnedilaaDoor

/- Sums commute, as plain facts. -/
namespace Go.Proofs.YtjohpdobnedilaaDoor

theorem inf_val {a : Nat} (ha : a < 18446744073709551616) (hi : infB a = true) : 9218868437227405312 + sgz (fneg a) = a := by
  have hp := f_parts ha
  have hm : fmag a = 9218868437227405312 := of_decide_eq_true hi
  omega
theorem zero_val {a : Nat} (ha : a < 18446744073709551616) (hz : zeroB a = true) : sgz (fneg a) = a := by
  have hp := f_parts ha
  have hm : fmag a = 0 := of_decide_eq_true hz
  omega
theorem zero_not {a : Nat} (hz : zeroB a = true) : nanB a = false ∧ infB a = false ∧ fmag a = 0 ∧ fz a = 0 := by
  have hm : fmag a = 0 := of_decide_eq_true hz
  exact ⟨decide_eq_false (by omega), decide_eq_false (by omega), hm, (fz_zero a).2 hm⟩
theorem inf_not {a : Nat} (hi : infB a = true) : nanB a = false ∧ zeroB a = false := by
  have hm : fmag a = 9218868437227405312 := of_decide_eq_true hi
  exact ⟨decide_eq_false (by omega), decide_eq_false (by omega)⟩
theorem xor_false (b : Bool) : (b != false) = b := by cases b <;> rfl

/-- a sum, written out -/
theorem add_form (a b : Nat) (mode : Int) : fmaF a 4607182418800017408 b mode =
    if nanB a || nanB b then 9221120237041090560
    else if infB a && infB b && decide (b ≠ 9218868437227405312 + sgz (fneg a)) then 9221120237041090560
    else if infB a then 9218868437227405312 + sgz (fneg a)
    else if zeroB a && zeroB b && decide (b ≠ sgz (fneg a)) then cancel mode
    else if infB b || zeroB a then b
    else rsum (sgi (fneg a) (fz a * 2 ^ low74) + sgi (fneg b) (fz b * 2 ^ low74)) (-2148) mode := by
  obtain ⟨o1, o2, o3, o4⟩ := one_facts
  unfold fmaF
  rw [o1, o2, o3, o4, xor_false, fz_one]
  simp only [Bool.or_false]
  by_cases h : infB a = true
  · obtain ⟨h1, h2⟩ := inf_not h
    rw [h, h1, h2]
    simp
  · rw [Bool.not_eq_true] at h
    rw [h]
    simp

theorem faddF_comm {a b : Nat} (ha : a < 18446744073709551616) (hb : b < 18446744073709551616) (mode : Int) : faddF a b mode = faddF b a mode := by
  unfold faddF
  rw [add_form, add_form, Bool.or_comm (nanB b) (nanB a)]
  cases hna : nanB a
  · cases hnb : nanB b
    · simp only [Bool.or_false, Bool.false_eq_true, if_false]
      cases hia : infB a
      · cases hib : infB b
        · simp only [Bool.false_and, Bool.false_eq_true, if_false, Bool.false_or]
          cases hza : zeroB a
          · cases hzb : zeroB b
            · simp only [Bool.false_and, Bool.false_eq_true, if_false]
              rw [Int.add_comm]
            · simp only [Bool.false_and, Bool.and_false, Bool.false_eq_true, if_false, if_true]
              obtain ⟨h1, h2, h3, h4⟩ := zero_not hzb
              have := fma_one (c := b) mode ha hna hza h3 h1 h2
              rw [add_form, hna, hnb, hia, hza, hib] at this
              simpa using this
          · cases hzb : zeroB b
            · simp only [Bool.false_and, Bool.and_false, Bool.false_eq_true, if_false, if_true]
              obtain ⟨h1, h2, h3, h4⟩ := zero_not hza
              have := fma_one (c := a) mode hb hnb hzb h3 h1 h2
              rw [add_form, hna, hnb, hib, hzb, hia] at this
              simpa using this.symm
            · have e1 := zero_val ha hza
              have e2 := zero_val hb hzb
              rw [e1, e2]
              simp only [Bool.true_and, if_true]
              by_cases hab : a = b
              · subst hab; simp
              · rw [decide_eq_true (show b ≠ a from fun h => hab h.symm), decide_eq_true (show a ≠ b from hab)]
                simp
        · obtain ⟨h1, h2⟩ := inf_not hib
          rw [inf_val hb hib, h2]
          simp
      · obtain ⟨h1, h2⟩ := inf_not hia
        cases hib : infB b
        · rw [inf_val ha hia, h2]
          simp
        · rw [inf_val ha hia, inf_val hb hib]
          simp only [Bool.true_and, if_true]
          by_cases hab : a = b
          · subst hab; simp
          · rw [decide_eq_true (show b ≠ a from fun h => hab h.symm), decide_eq_true (show a ≠ b from hab)]
            simp
    · simp
  · simp

end Go.Proofs.YtjohpdobnedilaaDoor
