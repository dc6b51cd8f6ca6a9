/- Negated arguments give negated results, as plain facts. -/
import Derived.Test.YtfgmkeiiidckbaaDoorCFnum
import Derived.Test.YtfgmkeiiidckbaaDoorGv
import Derived.Test.YtfgmkeiiidckbaaDoorCFdivA
import Derived.Test.YtfgmkeiiidckbaaDoorCFround
import Derived.Test.YtfgmkeiiidckbaaDoorCFord
namespace Go.Proofs.YtfgmkeiiidckbaaDoor

/-- the mode that rounds the negated numbers alike -/
def opp (mode : Int) : Int := if mode = 1 then 2 else if mode = 2 then 1 else mode

theorem fup_mirror (neg : Bool) (mode : Int) (kept r h : Nat) (t : Bool) : fup (!neg) (opp mode) kept r h t = fup neg mode kept r h t := by
  unfold fup opp
  by_cases h1 : mode = 1
  · subst h1; cases neg <;> simp
  · by_cases h2 : mode = 2
    · subst h2; cases neg <;> simp
    · simp only [if_neg h1, if_neg h2]
theorem fover_mirror (neg : Bool) (mode : Int) : fover (!neg) (opp mode) = fover neg mode := by
  unfold fover opp
  by_cases h1 : mode = 1
  · subst h1; cases neg <;> simp
  · by_cases h2 : mode = 2
    · subst h2; cases neg <;> simp
    · simp only [if_neg h1, if_neg h2]
theorem fla_mirror (neg : Bool) (N : Nat) (e : Int) (t : Bool) (mode : Int) : fla (!neg) N e t (opp mode) = fla neg N e t mode := by
  unfold fla
  simp only [fup_mirror, fover_mirror]

theorem fmag_sgz (s : Bool) {f : Nat} (h : f < 9223372036854775808) : fmag (sgz s + f) = f ∧ fneg (sgz s + f) = s := by
  unfold fmag fneg sgz
  cases s
  · exact ⟨by simp; omega, by simp; omega⟩
  · exact ⟨by simp; omega, by simp⟩
/-- negating a number that is no NaN -/
theorem fnegF_sgz (s : Bool) {f : Nat} (h : f ≤ 9218868437227405312) : fnegF (sgz s + f) = sgz (!s) + f := by
  obtain ⟨h1, h2⟩ := fmag_sgz s (show f < 9223372036854775808 by omega)
  unfold fnegF nanB
  rw [h1, h2, decide_eq_false (by omega)]
  rfl
theorem fnegF_sgz0 (s : Bool) : fnegF (sgz s) = sgz (!s) := by have := fnegF_sgz s (f := 0) (by omega); simpa using this
theorem fneg_parts {a : Nat} (ha : a < 18446744073709551616) (hn : nanB a = false) : ∃ s m, m ≤ 9218868437227405312 ∧ a = sgz s + m ∧ fnegF a = sgz (!s) + m ∧ fneg a = s ∧ fmag a = m := by
  have h1 := nanB_not hn
  have h2 := f_parts ha
  refine ⟨fneg a, fmag a, h1, h2, ?_, rfl, rfl⟩
  have := fnegF_sgz (fneg a) h1
  rwa [← h2] at this
theorem neg_facts {a : Nat} (ha : a < 18446744073709551616) (hn : nanB a = false) : nanB (fnegF a) = false ∧ infB (fnegF a) = infB a ∧ zeroB (fnegF a) = zeroB a ∧ fz (fnegF a) = fz a ∧ fneg (fnegF a) = !(fneg a) ∧ sig (fnegF a) = sig a ∧ fsh (fnegF a) = fsh a ∧ fmag (fnegF a) = fmag a := by
  obtain ⟨s, m, h1, h2, h3, h4, h5⟩ := fneg_parts ha hn
  obtain ⟨g1, g2⟩ := fmag_sgz (!s) (show m < 9223372036854775808 by omega)
  have e1 : fmag (fnegF a) = fmag a := by rw [h3, h5, g1]
  have e2 : fneg (fnegF a) = !(fneg a) := by rw [h3, h4, g2]
  have e3 : sig (fnegF a) = sig a := by unfold sig ffld; rw [e1]
  have e4 : fsh (fnegF a) = fsh a := by unfold fsh ffld; rw [e1]
  refine ⟨?_, ?_, ?_, ?_, e2, e3, e4, e1⟩
  · unfold nanB at hn ⊢; rw [e1, hn]
  · unfold infB; rw [e1]
  · unfold zeroB; rw [e1]
  · unfold fz; rw [e3, e4]
theorem neg_nan {a : Nat} (hn : nanB a = true) : fnegF a = 9221120237041090560 := by unfold fnegF; rw [if_pos hn]

theorem sgi_not (s : Bool) (A : Nat) : sgi (!s) A = - sgi s A := by unfold sgi; cases s <;> simp
theorem xor_not (a b : Bool) : ((!a) != b) = !(a != b) ∧ (a != !b) = !(a != b) := by cases a <;> cases b <;> exact ⟨rfl, rfl⟩

theorem rnd_mirror {S : Int} (h : S ≠ 0) (m mode : Int) : rnd (-S) m (opp mode) = fnegF (rnd S m mode) := by
  have e1 : decide (-S < 0) = !(decide (S < 0)) := by
    by_cases h1 : S < 0
    · rw [decide_eq_true h1, decide_eq_false (by omega)]; rfl
    · rw [decide_eq_false h1, decide_eq_true (by omega)]; rfl
  have h2 := fla_le (decide (S < 0)) S.natAbs m false mode
  unfold rnd
  rw [e1, Int.natAbs_neg]
  unfold flr
  rw [fla_mirror]
  have h3 := fnegF_sgz (decide (S < 0)) h2
  unfold sgz at h3
  exact h3.symm
theorem rsum_mirror {S : Int} (h : S ≠ 0) (m mode : Int) : rsum (-S) m (opp mode) = fnegF (rsum S m mode) := by
  unfold rsum
  rw [if_neg h, if_neg (by omega), rnd_mirror h]

/-- a product with one factor negated -/
theorem fmul_mirror {a b : Nat} (ha : a < 18446744073709551616) (mode : Int) : fmulF (fnegF a) b (opp mode) = fnegF (fmulF a b mode) := by
  unfold fmulF fmaF
  cases hn : nanB a
  · obtain ⟨n1, n2, n3, n4, n5, -, -, -⟩ := neg_facts ha hn
    rw [n1, n2, n3, n4, n5, (xor_not _ _).1]
    obtain ⟨s, hs⟩ : ∃ s, (fneg a != fneg b) = s := ⟨_, rfl⟩
    rw [hs]
    have z1 : ∀ s, nanB (sgz s) = false ∧ infB (sgz s) = false ∧ zeroB (sgz s) = true ∧ fz (sgz s) = 0 := by intro s; cases s <;> decide
    obtain ⟨y1, y2, y3, y4⟩ := z1 s
    obtain ⟨x1, x2, x3, x4⟩ := z1 (!s)
    rw [y1, y2, y3, y4, x1, x2, x3, x4]
    simp only [Bool.false_or, Bool.or_false, Bool.and_false, Bool.false_and, Bool.false_eq_true, if_false, Bool.and_true, ne_eq, not_true_eq_false, decide_false]
    cases hb : nanB b
    · cases hi : (infB a || infB b)
      · cases hz : (zeroB a || zeroB b)
        · simp only [Bool.false_and, Bool.false_eq_true, if_false, Bool.false_or]
          rw [Nat.zero_mul, sgi_not, sgi_zero, sgi_zero, Int.add_zero, Int.add_zero]
          rw [Bool.or_eq_false_iff] at hz
          refine rsum_mirror ?_ _ _
          have q1 : fz a ≠ 0 := fun h => by rw [fz_zero] at h; unfold zeroB at hz; rw [h] at hz; simp at hz
          have q2 : fz b ≠ 0 := fun h => by rw [fz_zero] at h; unfold zeroB at hz; rw [h] at hz; simp at hz
          have q3 := Nat.mul_ne_zero q1 q2
          unfold sgi; split <;> omega
        · simp only [Bool.false_and, Bool.false_eq_true, if_false, Bool.false_or, if_true]
          exact (fnegF_sgz0 s).symm
      · cases hz : (zeroB a || zeroB b)
        · simp only [Bool.and_false, Bool.false_eq_true, if_false, Bool.false_or, if_true]
          have := fnegF_sgz s (f := 9218868437227405312) (Nat.le_refl _)
          rw [Nat.add_comm, ← this, Nat.add_comm]
        · simp only [Bool.and_self, Bool.or_true, if_true]
          decide
    · simp only [Bool.true_or, if_true]
      decide
  · rw [neg_nan hn]
    have : nanB 9221120237041090560 = true := by decide
    rw [this]
    simp only [Bool.true_or, if_true]
    decide

theorem fdiv_mirror {a b : Nat} (hb : b < 18446744073709551616) (mode : Int) : fdivF a (fnegF b) (opp mode) = fnegF (fdivF a b mode) := by
  unfold fdivF
  cases hn : nanB b
  · obtain ⟨n1, n2, n3, -, n5, n6, n7, -⟩ := neg_facts hb hn
    rw [n1, n2, n3, n5, n6, n7, (xor_not _ _).2]
    obtain ⟨s, hs⟩ : ∃ s, (fneg a != fneg b) = s := ⟨_, rfl⟩
    rw [hs]
    cases hc : (nanB a || false || infB a && infB b || zeroB a && zeroB b)
    · simp only [Bool.false_eq_true, if_false]
      cases hd : (infB a || zeroB b)
      · simp only [Bool.false_eq_true, if_false]
        cases he : (zeroB a || infB b)
        · simp only [Bool.false_eq_true, if_false]
          rw [fla_mirror]
          exact (fnegF_sgz s (fla_le _ _ _ _ _)).symm
        · simp only [if_true]
          exact (fnegF_sgz0 s).symm
      · simp only [if_true]
        have := fnegF_sgz s (f := 9218868437227405312) (Nat.le_refl _)
        rw [Nat.add_comm, ← this, Nat.add_comm]
    · simp only [if_true]
      decide
  · rw [neg_nan hn]
    have : nanB 9221120237041090560 = true := by decide
    rw [this]
    simp only [Bool.or_true, Bool.true_or, if_true]
    decide

theorem cancel_kind (mode : Int) : fkind (cancel mode) = 0 ∧ fkind (fnegF (cancel mode)) = 0 := by unfold cancel; split <;> decide
theorem kind_neg {a : Nat} (ha : a < 18446744073709551616) (hn : nanB a = false) : fkind (fnegF a) = fkind a := by
  unfold fkind
  rw [(neg_facts ha hn).2.2.2.2.2.2.2]

/-- a sum with both negated: the same but for the zero that is the sum of opposite numbers -/
theorem fadd_mirror {a b : Nat} (ha : a < 18446744073709551616) (hb : b < 18446744073709551616) (mode : Int) :
    faddF (fnegF a) (fnegF b) (opp mode) = fnegF (faddF a b mode) ∨ fkind (faddF (fnegF a) (fnegF b) (opp mode)) = 0 ∧ fkind (fnegF (faddF a b mode)) = 0 := by
  unfold faddF
  rw [add_form, add_form]
  have hnn : nanB 9221120237041090560 = true := by decide
  cases hna : nanB a
  · cases hnb : nanB b
    · obtain ⟨n1, n2, n3, n4, n5, -, -, -⟩ := neg_facts ha hna
      obtain ⟨m1, m2, m3, m4, m5, -, -, -⟩ := neg_facts hb hnb
      obtain ⟨s, x, p1, p2, p3, p4, p5⟩ := fneg_parts ha hna
      obtain ⟨t, y, q1, q2, q3, q4, q5⟩ := fneg_parts hb hnb
      rw [n1, n2, n3, n4, n5, m1, m2, m3, m4, m5]
      simp only [Bool.or_false, Bool.false_eq_true, if_false]
      have hinf : ∀ s : Bool, 9218868437227405312 + sgz (!s) = fnegF (9218868437227405312 + sgz s) := fun s => by
        have := fnegF_sgz s (f := 9218868437227405312) (Nat.le_refl _)
        rw [Nat.add_comm, ← this, Nat.add_comm]
      cases hia : infB a
      · simp only [Bool.false_and, Bool.false_eq_true, if_false]
        cases hza : zeroB a
        · simp only [Bool.false_and, Bool.false_eq_true, if_false]
          cases hib : infB b
          · simp only [Bool.or_false, Bool.false_eq_true, if_false]
            rw [sgi_not, sgi_not, ← Int.neg_add]
            by_cases h0 : sgi (fneg a) (fz a * 2 ^ low74) + sgi (fneg b) (fz b * 2 ^ low74) = 0
            · right
              rw [h0]
              unfold rsum
              rw [if_pos rfl, if_pos (by omega)]
              exact ⟨(cancel_kind _).1, (cancel_kind _).2⟩
            · left; exact rsum_mirror h0 _ _
          · left; simp only [Bool.true_or, if_true]
        · simp only [Bool.true_and, Bool.or_true, if_true]
          cases hzb : zeroB b
          · left; simp only [Bool.false_and, Bool.false_eq_true, if_false]
          · have y0 : y = 0 := by have : fmag b = 0 := of_decide_eq_true hzb; omega
            rw [q3, q2, p4, y0]
            simp only [Bool.true_and, Nat.add_zero]
            have d1 : sgz false ≠ sgz true := by decide
            have d2 : sgz true ≠ sgz false := by decide
            cases s <;> cases t <;> simp [fnegF_sgz0, cancel_kind, d1, d2]
      · cases hib : infB b
        · left
          simp only [Bool.and_false, Bool.false_and, Bool.false_eq_true, if_false, if_true]
          exact hinf _
        · have x0 : x = 9218868437227405312 := by have : fmag a = 9218868437227405312 := of_decide_eq_true hia; omega
          have y0 : y = 9218868437227405312 := by have : fmag b = 9218868437227405312 := of_decide_eq_true hib; omega
          left
          simp only [Bool.true_and, if_true]
          rw [q3, q2, p4, y0]
          cases s <;> cases t <;> decide
    · left
      rw [neg_nan hnb, hnn]
      simp only [Bool.or_true, if_true]
      decide
  · left
    rw [neg_nan hna, hnn]
    simp only [Bool.true_or, if_true]
    decide
end Go.Proofs.YtfgmkeiiidckbaaDoor
