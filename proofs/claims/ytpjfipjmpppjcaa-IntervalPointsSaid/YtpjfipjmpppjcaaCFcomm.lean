/- Fused products commute, and rounding a float to itself, as plain facts. -/
import Derived.Test.YtpjfipjmpppjcaaCFdiv
namespace Go.Proofs.Ytpjfipjmpppjcaa

theorem xne_comm (a b : Bool) : (a != b) = (b != a) := by cases a <;> cases b <;> rfl

theorem fmaF_comm (a b c : Nat) (mode : Int) : fmaF a b c mode = fmaF b a c mode := by
  unfold fmaF
  rw [Bool.or_comm (nanB b) (nanB a), Bool.or_comm (infB b) (infB a), Bool.or_comm (zeroB b) (zeroB a), xne_comm (fneg b) (fneg a), Nat.mul_comm (fz b) (fz a)]

theorem fmulF_comm (a b : Nat) (mode : Int) : fmulF a b mode = fmulF b a mode := by
  unfold fmulF
  rw [xne_comm (fneg b) (fneg a), fmaF_comm]

theorem fz_one : fz 4607182418800017408 = 2 ^ low74 := by decide +kernel

theorem one_facts : nanB 4607182418800017408 = false ∧ infB 4607182418800017408 = false ∧ zeroB 4607182418800017408 = false ∧ fneg 4607182418800017408 = false := by decide +kernel

/-- times one, and a zero added: the float itself, where it is not zero -/
theorem fma_one {a c : Nat} (mode : Int) (ha : a < 18446744073709551616) (hn : nanB a = false) (hz : zeroB a = false) (hc : fmag c = 0) (hc2 : nanB c = false) (hc3 : infB c = false) : fmaF a 4607182418800017408 c mode = a := by
  obtain ⟨o1, o2, o3, o4⟩ := one_facts
  have hp := f_parts ha
  have hx : (fneg a != false) = fneg a := by cases fneg a <;> rfl
  unfold fmaF
  rw [hn, hc2, o1, o2, o3, hz, hc3, o4, hx]
  simp only [Bool.or_false, Bool.and_false, Bool.false_eq_true, if_false, Bool.false_and]
  cases hi : infB a
  · simp only [Bool.false_eq_true, if_false]
    have hm : fmag a ≤ 9218868437227405312 := by
      have h1 : ¬ 9218868437227405312 < fmag a := of_decide_eq_false hn
      omega
    have hm2 : fmag a ≠ 9218868437227405312 := of_decide_eq_false hi
    have hm0 : fmag a ≠ 0 := of_decide_eq_false hz
    have hf0 : fz a ≠ 0 := fun h => hm0 ((fz_zero a).1 h)
    rw [(fz_zero c).2 hc, Nat.zero_mul, sgi_zero, Int.add_zero, fz_one]
    have hA : fz a * 2 ^ low74 ≠ 0 := Nat.mul_ne_zero hf0 (Nat.pos_iff_ne_zero.1 (Nat.pow_pos (by omega)))
    have hv := Num.unit (fz a) low74 (e := -1074) (m := -2148) (by decide)
    unfold rsum
    rw [if_neg (by unfold sgi; split <;> omega), rnd_sgi _ hA, ← hv.fla hf0, fla_fz _ hm0 (by omega)]
    exact hp.symm
  · simp only [if_true]
    have hm : fmag a = 9218868437227405312 := of_decide_eq_true hi
    rw [hm] at hp
    omega
end Go.Proofs.Ytpjfipjmpppjcaa
