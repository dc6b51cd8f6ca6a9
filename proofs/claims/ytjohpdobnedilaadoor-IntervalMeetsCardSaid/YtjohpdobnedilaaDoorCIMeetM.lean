/- Intersections, hulls and interiors of intervals, as plain facts about the ranks of their bounds. -/
import Derived.Test.YtjohpdobnedilaaDoorCRef05C
import Derived.Test.YtjohpdobnedilaaDoorCILeast
namespace Go.Proofs.YtjohpdobnedilaaDoor
open Go.RowKit

/-- is a float an element? -/
def contF (lo hi f : Nat) : Bool := validF lo hi && finB f && decide (frank lo ≤ frank f) && decide (frank f ≤ frank hi)

theorem rank_is_inf {f : Nat} (hf : f < 18446744073709551616) : frank f = 9218868437227405312 ↔ f = 9218868437227405312 := by
  unfold frank fneg fmag
  by_cases h : 9223372036854775808 ≤ f
  · rw [decide_eq_true h, if_pos rfl]; omega
  · rw [decide_eq_false h, if_neg (by simp)]; omega
theorem rank_is_ninf {f : Nat} (hf : f < 18446744073709551616) : frank f = -9218868437227405312 ↔ f = 18442240474082181120 := by
  unfold frank fneg fmag
  by_cases h : 9223372036854775808 ≤ f
  · rw [decide_eq_true h, if_pos rfl]; omega
  · rw [decide_eq_false h, if_neg (by simp)]; omega
theorem rank_le {f : Nat} (h : nanB f = false) : -9218868437227405312 ≤ frank f ∧ frank f ≤ 9218868437227405312 := by
  have h1 : ¬ 9218868437227405312 < fmag f := of_decide_eq_false h
  unfold frank
  split <;> omega
theorem valid_iff {lo hi : Nat} (hl : lo < 18446744073709551616) (hh : hi < 18446744073709551616) : validF lo hi = true ↔ nanB lo = false ∧ nanB hi = false ∧ frank lo ≤ frank hi ∧ frank lo < 9218868437227405312 ∧ -9218868437227405312 < frank hi := by
  unfold validF
  simp only [Bool.and_eq_true, Bool.not_eq_true', decide_eq_true_eq]
  constructor
  · rintro ⟨⟨⟨⟨h1, h2⟩, h3⟩, h4⟩, h5⟩
    have a1 := rank_le h1
    have a2 := rank_le h2
    refine ⟨h1, h2, h3, ?_, ?_⟩
    · have : frank lo ≠ 9218868437227405312 := fun e => h4 ((rank_is_inf hl).1 e)
      omega
    · have : frank hi ≠ -9218868437227405312 := fun e => h5 ((rank_is_ninf hh).1 e)
      omega
  · rintro ⟨h1, h2, h3, h4, h5⟩
    refine ⟨⟨⟨⟨h1, h2⟩, h3⟩, fun e => ?_⟩, fun e => ?_⟩
    · have := (rank_is_inf hl).2 e; omega
    · have := (rank_is_ninf hh).2 e; omega
theorem fin_rank_lt {f : Nat} (h : finB f = true) : -9218868437227405312 < frank f ∧ frank f < 9218868437227405312 := by
  have h1 : fmag f < 9218868437227405312 := of_decide_eq_true h
  unfold frank
  split <;> omega

theorem cont_fl (lo hi f : Nat) (hl : lo < 18446744073709551616) (hh : hi < 18446744073709551616) : contB lo hi (fdy f) = contF lo hi f := by
  unfold contB contF
  cases hv : validF lo hi with
  | false => rfl
  | true =>
    cases hf : finB f with
    | false =>
      have : fdy f = none := by unfold fdy; rw [hf]; rfl
      rw [this]; rfl
    | true =>
      have hsm : (fdy f).isSome = true := by
        have := fdy_some hf
        cases hq : fdy f with
        | none => exact absurd hq this
        | some p => rfl
      unfold validF at hv
      simp only [Bool.and_eq_true, Bool.not_eq_true', decide_eq_true_eq] at hv
      obtain ⟨⟨⟨⟨n1, n2⟩, -⟩, e1⟩, e2⟩ := hv
      obtain ⟨b1, b2⟩ := fin_rank_lt hf
      have g1 : lessN 0 (fdy f) (numI lo) (numD lo) = decide (frank f < frank lo) := by
        by_cases hc1 : lo = 18442240474082181120
        · rw [decide_eq_false (by rw [(rank_is_ninf hl).2 hc1]; omega)]
          unfold numI numD lessN
          rw [if_neg e1, if_pos hc1, if_pos (by simp)]
          rfl
        · have hg := fin_of hl n1 e1 hc1
          unfold numI numD lessN
          rw [if_neg e1, if_neg hc1, if_neg e1, if_neg hc1, if_neg (by simp), ← sc_less hf hg, hsm]
          have := fdy_some hg
          cases hq : fdy lo with
          | none => exact absurd hq this
          | some p => rfl
      have g2 : lessN (numI hi) (numD hi) 0 (fdy f) = decide (frank hi < frank f) := by
        by_cases hc1 : hi = 9218868437227405312
        · rw [decide_eq_false (by rw [(rank_is_inf hh).2 hc1]; omega)]
          unfold numI numD lessN
          rw [if_pos hc1, if_pos (by simp)]
          rfl
        · have hg := fin_of hh n2 hc1 e2
          unfold numI numD lessN
          rw [if_neg hc1, if_neg e2, if_neg hc1, if_neg e2, if_neg (by simp), ← sc_less hg hf, hsm]
          have := fdy_some hg
          cases hq : fdy hi with
          | none => exact absurd hq this
          | some p => rfl
      rw [hsm, g1, g2]
      simp only [Bool.true_and, ← decide_not, Int.not_lt]

theorem plain_facts (f : Nat) : nanB (plainF f) = nanB f ∧ frank (plainF f) = frank f := by
  unfold plainF
  split
  · rename_i h; subst h; decide
  · exact ⟨rfl, rfl⟩
theorem plainF_lt {f : Nat} (h : f < 18446744073709551616) : plainF f < 18446744073709551616 := by unfold plainF; split <;> omega
theorem more_step {m f : Nat} (hm : nanB m = false) (hf : nanB f = false) : nanB (if lessF m f then f else m) = false ∧ frank (if lessF m f then f else m) = max (frank m) (frank f) := by
  unfold lessF
  rw [hm, hf]
  by_cases h : frank m < frank f
  · rw [decide_eq_true h]; exact ⟨hf, by simp; omega⟩
  · rw [decide_eq_false h]; exact ⟨hm, by simp; omega⟩
theorem less_step {m f : Nat} (hm : nanB m = false) (hf : nanB f = false) : nanB (if lessF f m then f else m) = false ∧ frank (if lessF f m then f else m) = min (frank m) (frank f) := by
  unfold lessF
  rw [hm, hf]
  by_cases h : frank f < frank m
  · rw [decide_eq_true h]; exact ⟨hf, by simp; omega⟩
  · rw [decide_eq_false h]; exact ⟨hm, by simp; omega⟩
theorem great_two {a c : Nat} (ha : nanB a = false) (hc : nanB c = false) : nanB (greatF [a, c]) = false ∧ frank (greatF [a, c]) = max (frank a) (frank c) := by
  obtain ⟨h1, h2⟩ := more_step (m := 18442240474082181120) (by decide) ha
  obtain ⟨h3, h4⟩ := more_step h1 hc
  refine ⟨h3, ?_⟩
  show frank (if lessF (if lessF 18442240474082181120 a then a else 18442240474082181120) c then c else (if lessF 18442240474082181120 a then a else 18442240474082181120)) = _
  rw [h4, h2, show frank 18442240474082181120 = -9218868437227405312 by decide]
  have := rank_le ha
  omega
theorem least_two {b d : Nat} (hb : nanB b = false) (hd : nanB d = false) : nanB (leastF [b, d]) = false ∧ frank (leastF [b, d]) = min (frank b) (frank d) := by
  obtain ⟨h1, h2⟩ := less_step (m := 9218868437227405312) (by decide) hb
  obtain ⟨h3, h4⟩ := less_step h1 hd
  refine ⟨h3, ?_⟩
  show frank (if lessF d (if lessF b 9218868437227405312 then b else 9218868437227405312) then d else (if lessF b 9218868437227405312 then b else 9218868437227405312)) = _
  rw [h4, h2, show frank 9218868437227405312 = 9218868437227405312 by decide]
  have := rank_le hb
  omega
theorem two_lt {a c : Nat} (ha : a < 18446744073709551616) (hc : c < 18446744073709551616) : (∀ x ∈ [a, c], x < 18446744073709551616) := by
  intro x hx
  rcases List.mem_cons.1 hx with rfl | hx
  · exact ha
  · rcases List.mem_cons.1 hx with rfl | hx
    · exact hc
    · cases hx

/-- the bounds of the intersection and of the hull -/
def meetLo (a c : Nat) : Nat := plainF (greatF [a, c])
def meetHi (b d : Nat) : Nat := plainF (leastF [b, d])
def hullLo (a c : Nat) : Nat := plainF (leastF [a, c])
def hullHi (b d : Nat) : Nat := plainF (greatF [b, d])
/-- does each bound of one lie outside of the other, or is infinite? -/
def interF (a b c d : Nat) : Bool := validF a b && validF c d && (lessF c a || decide (c = 18442240474082181120)) && (lessF b d || decide (d = 9218868437227405312))

theorem less_rank {a b : Nat} (ha : nanB a = false) (hb : nanB b = false) : lessF a b = decide (frank a < frank b) := by unfold lessF; rw [ha, hb]; rfl
theorem sub_rank {a b c d : Nat} (h1 : validF a b = true) (h2 : validF c d = true) : subF a b c d = (decide (frank c ≤ frank a) && decide (frank b ≤ frank d)) := by
  unfold subF
  have e1 := h1
  have e2 := h2
  unfold validF at e1 e2
  simp only [Bool.and_eq_true, Bool.not_eq_true', decide_eq_true_eq] at e1 e2
  rw [h1, h2, less_rank e1.1.1.1.1 e2.1.1.1.1, less_rank e2.1.1.1.2 e1.1.1.1.2]
  simp only [Bool.true_and, ← decide_not, Int.not_lt]

section
variable {a b c d f : Nat} (ha : a < 18446744073709551616) (hb : b < 18446744073709551616) (hc : c < 18446744073709551616) (hd : d < 18446744073709551616)
include ha hb hc hd

theorem meet_lt : meetLo a c < 18446744073709551616 ∧ meetHi b d < 18446744073709551616 ∧ hullLo a c < 18446744073709551616 ∧ hullHi b d < 18446744073709551616 :=
  ⟨plainF_lt (greatF_lt (two_lt ha hc)), plainF_lt (leastF_lt (two_lt hb hd)), plainF_lt (leastF_lt (two_lt ha hc)), plainF_lt (greatF_lt (two_lt hb hd))⟩

theorem meet_valid (h1 : validF a b = true) (h2 : validF c d = true) : validF (meetLo a c) (meetHi b d) = true ↔ max (frank a) (frank c) ≤ min (frank b) (frank d) := by
  obtain ⟨v1, v2, v3, v4, v5⟩ := (valid_iff ha hb).1 h1
  obtain ⟨u1, u2, u3, u4, u5⟩ := (valid_iff hc hd).1 h2
  obtain ⟨l1, l2, -, -⟩ := meet_lt ha hb hc hd
  rw [valid_iff l1 l2]
  unfold meetLo meetHi
  rw [(plain_facts _).1, (plain_facts _).1, (plain_facts _).2, (plain_facts _).2, (great_two v1 u1).1, (great_two v1 u1).2, (least_two v2 u2).1, (least_two v2 u2).2]
  constructor
  · rintro ⟨-, -, h, -, -⟩; exact h
  · intro h; exact ⟨rfl, rfl, h, by omega, by omega⟩
theorem hull_valid (h1 : validF a b = true) (h2 : validF c d = true) : validF (hullLo a c) (hullHi b d) = true ∧ frank (hullLo a c) = min (frank a) (frank c) ∧ frank (hullHi b d) = max (frank b) (frank d) := by
  obtain ⟨v1, v2, v3, v4, v5⟩ := (valid_iff ha hb).1 h1
  obtain ⟨u1, u2, u3, u4, u5⟩ := (valid_iff hc hd).1 h2
  obtain ⟨-, -, l1, l2⟩ := meet_lt ha hb hc hd
  rw [valid_iff l1 l2]
  unfold hullLo hullHi
  rw [(plain_facts _).1, (plain_facts _).1, (plain_facts _).2, (plain_facts _).2, (least_two v1 u1).1, (least_two v1 u1).2, (great_two v2 u2).1, (great_two v2 u2).2]
  exact ⟨⟨rfl, rfl, by omega, by omega, by omega⟩, rfl, rfl⟩
theorem hull_sub (h1 : validF a b = true) (h2 : validF c d = true) : subF a b (hullLo a c) (hullHi b d) = true ∧ subF c d (hullLo a c) (hullHi b d) = true := by
  obtain ⟨h3, h4, h5⟩ := hull_valid ha hb hc hd h1 h2
  rw [sub_rank h1 h3, sub_rank h2 h3, h4, h5]
  simp only [Bool.and_eq_true, decide_eq_true_eq]
  omega
theorem inter_sub (h : interF a b c d = true) : subF a b c d = true := by
  unfold interF at h
  simp only [Bool.and_eq_true, Bool.or_eq_true, decide_eq_true_eq] at h
  obtain ⟨⟨⟨h1, h2⟩, h3⟩, h4⟩ := h
  obtain ⟨v1, v2, v3, v4, v5⟩ := (valid_iff ha hb).1 h1
  obtain ⟨u1, u2, u3, u4, u5⟩ := (valid_iff hc hd).1 h2
  rw [less_rank u1 v1, decide_eq_true_eq] at h3
  rw [less_rank v2 u2, decide_eq_true_eq] at h4
  rw [sub_rank h1 h2]
  simp only [Bool.and_eq_true, decide_eq_true_eq]
  have r1 := rank_le v1
  have r2 := rank_le v2
  constructor
  · rcases h3 with h3 | h3
    · omega
    · have := (rank_is_ninf hc).2 h3; omega
  · rcases h4 with h4 | h4
    · omega
    · have := (rank_is_inf hd).2 h4; omega
theorem meet_no (h1 : validF a b = true) (h2 : validF c d = true) (h : validF (meetLo a c) (meetHi b d) = false) : (contF a b f && contF c d f) = false ∧ subF a b c d = false := by
  have hm : ¬ max (frank a) (frank c) ≤ min (frank b) (frank d) := fun e => by
    have := (meet_valid ha hb hc hd h1 h2).2 e
    rw [h] at this; cases this
  obtain ⟨v1, v2, v3, v4, v5⟩ := (valid_iff ha hb).1 h1
  obtain ⟨u1, u2, u3, u4, u5⟩ := (valid_iff hc hd).1 h2
  constructor
  · unfold contF
    rw [h1, h2]
    rw [Bool.eq_false_iff]
    simp only [ne_eq, Bool.and_eq_true, decide_eq_true_eq]
    omega
  · rw [sub_rank h1 h2, Bool.eq_false_iff]
    simp only [ne_eq, Bool.and_eq_true, decide_eq_true_eq]
    omega
theorem meet_yes (h1 : validF a b = true) (h2 : validF c d = true) (h : validF (meetLo a c) (meetHi b d) = true) : contF (meetLo a c) (meetHi b d) f = (contF a b f && contF c d f) ∧ subF a b (meetLo a c) (meetHi b d) = subF a b c d := by
  have hm := (meet_valid ha hb hc hd h1 h2).1 h
  obtain ⟨v1, v2, v3, v4, v5⟩ := (valid_iff ha hb).1 h1
  obtain ⟨u1, u2, u3, u4, u5⟩ := (valid_iff hc hd).1 h2
  have e1 : frank (meetLo a c) = max (frank a) (frank c) := by unfold meetLo; rw [(plain_facts _).2, (great_two v1 u1).2]
  have e2 : frank (meetHi b d) = min (frank b) (frank d) := by unfold meetHi; rw [(plain_facts _).2, (least_two v2 u2).2]
  constructor
  · unfold contF
    rw [h, h1, h2, e1, e2]
    rw [Bool.eq_iff_iff]
    simp only [Bool.and_eq_true, decide_eq_true_eq, true_and]
    constructor
    · rintro ⟨⟨h1, h2⟩, h3⟩; exact ⟨⟨⟨h1, by omega⟩, by omega⟩, ⟨h1, by omega⟩, by omega⟩
    · rintro ⟨⟨⟨h1, h2⟩, h3⟩, ⟨-, h4⟩, h5⟩; exact ⟨⟨h1, by omega⟩, by omega⟩
  · rw [sub_rank h1 h, sub_rank h1 h2, e1, e2, Bool.eq_iff_iff]
    simp only [Bool.and_eq_true, decide_eq_true_eq]
    omega
end
end Go.Proofs.YtjohpdobnedilaaDoor
