/- Sums commute, and products and quotients with one, as plain facts. -/
import Derived.Test.YtpjfipjmpppjcaaDoorCFcomm
import Derived.Test.YtpjfipjmpppjcaaDoorCFdivA
namespace Go.Proofs.YtpjfipjmpppjcaaDoor

theorem inf_val {a : Nat} (ha : a < 18446744073709551616) (hi : infB a = true) : 9218868437227405312 + sgz (fneg a) = a := by
  have hp := f_parts ha
  have hm : fmag a = 9218868437227405312 := of_decide_eq_true hi
  omega
theorem zero_val {a : Nat} (ha : a < 18446744073709551616) (hz : zeroB a = true) : sgz (fneg a) = a := by
  have hp := f_parts ha
  have hm : fmag a = 0 := of_decide_eq_true hz
  omega
theorem zero_not {a : Nat} (hz : zeroB a = true) : nanB a = false ∧ infB a = false ∧ fmag a = 0 ∧ fz a = 0 := by
  have hm : fmag a = 0 := of_decide_eq_true hz
  exact ⟨decide_eq_false (by omega), decide_eq_false (by omega), hm, (fz_zero a).2 hm⟩
theorem inf_not {a : Nat} (hi : infB a = true) : nanB a = false ∧ zeroB a = false := by
  have hm : fmag a = 9218868437227405312 := of_decide_eq_true hi
  exact ⟨decide_eq_false (by omega), decide_eq_false (by omega)⟩
theorem xor_false (b : Bool) : (b != false) = b := by cases b <;> rfl

/-- a sum, written out -/
theorem add_form (a b : Nat) (mode : Int) : fmaF a 4607182418800017408 b mode =
    if nanB a || nanB b then 9221120237041090560
    else if infB a && infB b && decide (b ≠ 9218868437227405312 + sgz (fneg a)) then 9221120237041090560
    else if infB a then 9218868437227405312 + sgz (fneg a)
    else if zeroB a && zeroB b && decide (b ≠ sgz (fneg a)) then cancel mode
    else if infB b || zeroB a then b
    else rsum (sgi (fneg a) (fz a * 2 ^ low74) + sgi (fneg b) (fz b * 2 ^ low74)) (-2148) mode := by
  obtain ⟨o1, o2, o3, o4⟩ := one_facts
  unfold fmaF
  rw [o1, o2, o3, o4, xor_false, fz_one]
  simp only [Bool.or_false]
  by_cases h : infB a = true
  · obtain ⟨h1, h2⟩ := inf_not h
    rw [h, h1, h2]
    simp
  · rw [Bool.not_eq_true] at h
    rw [h]
    simp

theorem faddF_comm {a b : Nat} (ha : a < 18446744073709551616) (hb : b < 18446744073709551616) (mode : Int) : faddF a b mode = faddF b a mode := by
  unfold faddF
  rw [add_form, add_form, Bool.or_comm (nanB b) (nanB a)]
  cases hna : nanB a
  · cases hnb : nanB b
    · simp only [Bool.or_false, Bool.false_eq_true, if_false]
      cases hia : infB a
      · cases hib : infB b
        · simp only [Bool.false_and, Bool.false_eq_true, if_false, Bool.false_or]
          cases hza : zeroB a
          · cases hzb : zeroB b
            · simp only [Bool.false_and, Bool.false_eq_true, if_false]
              rw [Int.add_comm]
            · simp only [Bool.false_and, Bool.and_false, Bool.false_eq_true, if_false, if_true]
              obtain ⟨h1, h2, h3, h4⟩ := zero_not hzb
              have := fma_one (c := b) mode ha hna hza h3 h1 h2
              rw [add_form, hna, hnb, hia, hza, hib] at this
              simpa using this
          · cases hzb : zeroB b
            · simp only [Bool.false_and, Bool.and_false, Bool.false_eq_true, if_false, if_true]
              obtain ⟨h1, h2, h3, h4⟩ := zero_not hza
              have := fma_one (c := a) mode hb hnb hzb h3 h1 h2
              rw [add_form, hna, hnb, hib, hzb, hia] at this
              simpa using this.symm
            · have e1 := zero_val ha hza
              have e2 := zero_val hb hzb
              rw [e1, e2]
              simp only [Bool.true_and, if_true]
              by_cases hab : a = b
              · subst hab; simp
              · rw [decide_eq_true (show b ≠ a from fun h => hab h.symm), decide_eq_true (show a ≠ b from hab)]
                simp
        · obtain ⟨h1, h2⟩ := inf_not hib
          rw [inf_val hb hib, h2]
          simp
      · obtain ⟨h1, h2⟩ := inf_not hia
        cases hib : infB b
        · rw [inf_val ha hia, h2]
          simp
        · rw [inf_val ha hia, inf_val hb hib]
          simp only [Bool.true_and, if_true]
          by_cases hab : a = b
          · subst hab; simp
          · rw [decide_eq_true (show b ≠ a from fun h => hab h.symm), decide_eq_true (show a ≠ b from hab)]
            simp
    · simp
  · simp

theorem sig_one : sig 4607182418800017408 = 4503599627370496 ∧ fsh 4607182418800017408 = 1022 := by decide +kernel
theorem quoY_one : quoY 4503599627370496 = 2 ^ 63 := by
  unfold quoY
  rw [log2_of (k := 52) (by decide) (by decide)]

/-- what a product with one is -/
theorem mul_one {a : Nat} (ha : a < 18446744073709551616) (hn : nanB a = false) (mode : Int) : fmulF a 4607182418800017408 mode = a := by
  obtain ⟨o1, o2, o3, o4⟩ := one_facts
  unfold fmulF
  rw [o4, xor_false]
  have z0 : fmag (sgz (fneg a)) = 0 := by unfold sgz fmag; cases fneg a <;> decide
  have z1 : nanB (sgz (fneg a)) = false := decide_eq_false (by omega)
  have z2 : infB (sgz (fneg a)) = false := decide_eq_false (by omega)
  have z3 : zeroB (sgz (fneg a)) = true := decide_eq_true z0
  cases hz : zeroB a
  · exact fma_one mode ha hn hz z0 z1 z2
  · obtain ⟨h1, h2, h3, h4⟩ := zero_not hz
    rw [add_form, hn, z1, h2, hz, z2, z3]
    simp
    exact zero_val ha hz

/-- what a quotient by one is -/
theorem div_one {a : Nat} (ha : a < 18446744073709551616) (hn : nanB a = false) (mode : Int) : fdivF a 4607182418800017408 mode = a := by
  obtain ⟨o1, o2, o3, o4⟩ := one_facts
  obtain ⟨s1, s2⟩ := sig_one
  have hp := f_parts ha
  unfold fdivF
  rw [o1, o2, o3, o4, xor_false, hn, s1, s2]
  cases hi : infB a
  · cases hz : zeroB a
    · simp only [Bool.or_false, Bool.and_false, Bool.false_eq_true, if_false]
      have hm : fmag a ≤ 9218868437227405312 := by
        have h1 : ¬ 9218868437227405312 < fmag a := of_decide_eq_false hn
        omega
      have hm2 : fmag a ≠ 9218868437227405312 := of_decide_eq_false hi
      have hm0 : fmag a ≠ 0 := of_decide_eq_false hz
      have hs0 : sig a ≠ 0 := fun h => hm0 ((sig_zero a).1 h)
      have hl : Nat.log2 (sig a) < 53 := (Nat.log2_lt hs0).2 (Nat.lt_of_lt_of_le (sig_lt a) (by decide))
      have hX : quoX (sig a) = sig a * 2 ^ (64 - Nat.log2 (sig a)) * 2 ^ 63 := by
        unfold quoX
        rw [Nat.mul_assoc, ← Nat.pow_add, show 64 - Nat.log2 (sig a) + 63 = 127 - Nat.log2 (sig a) by omega]
      have hE : quoE (sig a) 4503599627370496 (-1074 + (fsh a : Int)) (-1074 + ((1022 : Nat) : Int)) = -1074 + (fsh a : Int) - ((64 - Nat.log2 (sig a) : Nat) : Int) := by
        unfold quoE
        rw [log2_of (a := 4503599627370496) (k := 52) (by decide) (by decide)]
        omega
      rw [hE, quoY_one, hX, Nat.mul_div_cancel _ (by decide), Nat.mul_mod_left]
      simp only [ne_eq, not_true_eq_false, decide_false]
      rw [fla_shift _ hs0 _ _ _ _ (fun h => by cases h), fla_self _ hm0 (by omega)]
      exact hp.symm
    · simp
      exact zero_val ha hz
  · have h1 := inf_val ha hi
    obtain ⟨-, h2⟩ := inf_not hi
    rw [h2]
    simp
    exact h1

/-- a negative zero added to nearest -/
theorem add_negzero {a : Nat} (ha : a < 18446744073709551616) (hn : nanB a = false) : faddF a 9223372036854775808 0 = a := by
  have z0 : fmag 9223372036854775808 = 0 := by decide
  have z1 : nanB 9223372036854775808 = false := by decide
  have z2 : infB 9223372036854775808 = false := by decide
  have z3 : zeroB 9223372036854775808 = true := by decide
  unfold faddF
  cases hz : zeroB a
  · exact fma_one 0 ha hn hz z0 z1 z2
  · obtain ⟨h1, h2, h3, h4⟩ := zero_not hz
    have hv := zero_val ha hz
    rw [add_form, hn, z1, h2, hz, z2, z3, hv]
    simp only [Bool.or_false, Bool.and_false, Bool.false_and, Bool.false_eq_true, if_false, Bool.true_and, Bool.or_true, if_true]
    have hcan : cancel 0 = 0 := by decide
    rw [hcan]
    by_cases h : 9223372036854775808 = a
    · rw [decide_eq_false (show ¬ ((9223372036854775808 : Nat) ≠ a) from fun h' => h' h)]
      simp only [Bool.false_eq_true, if_false]
      exact h
    · rw [decide_eq_true (show (9223372036854775808 : Nat) ≠ a from h)]
      simp only [if_true]
      have h5 : a = 0 ∨ a = 9223372036854775808 := by
        rw [← hv]; unfold sgz; cases fneg a <;> simp
      omega
theorem nan_sum {a : Nat} (hn : nanB a = true) (b : Nat) (mode : Int) : faddF a b mode = 9221120237041090560 := by
  unfold faddF
  rw [add_form, hn]
  simp
theorem nan_mul {a : Nat} (hn : nanB a = true) (b : Nat) (mode : Int) : fmulF a b mode = 9221120237041090560 := by
  unfold fmulF fmaF
  rw [hn]
  simp
theorem nan_div {a : Nat} (hn : nanB a = true) (b : Nat) (mode : Int) : fdivF a b mode = 9221120237041090560 := by
  unfold fdivF
  rw [hn]
  simp
theorem mul_div_one {a : Nat} (ha : a < 18446744073709551616) (mode : Int) : fmulF a 4607182418800017408 mode = fdivF a 4607182418800017408 mode := by
  cases hn : nanB a
  · rw [mul_one ha hn, div_one ha hn]
  · rw [nan_mul hn, nan_div hn]
end Go.Proofs.YtpjfipjmpppjcaaDoor
