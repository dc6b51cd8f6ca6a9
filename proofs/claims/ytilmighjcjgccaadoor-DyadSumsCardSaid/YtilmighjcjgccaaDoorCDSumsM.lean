/- What DyadSums compares, as plain facts. -/
import Derived.Test.YtilmighjcjgccaaDoorHg
namespace Go.Proofs.YtilmighjcjgccaaDoor

theorem scs_reverse (l : List Dy) : scs l.reverse = scs l := by
  induction l with
  | nil => rfl
  | cons d l ih =>
    rw [List.reverse_cons, scs_append, ih]
    simp only [scs]
    omega
theorem dtotal_reverse (l : List Dy) : dtotal l.reverse = dtotal l := by
  unfold dtotal
  rw [scs_reverse]
  simp only [List.mem_reverse]

theorem isL_of {l : List Dy} (h : ∀ d ∈ l, Slim d) : ∃ N, IsL 2000 l N ∧ N.natAbs ≤ l.length * 2 ^ SB := by
  induction l with
  | nil => exact ⟨0, .nil, Nat.zero_le _⟩
  | cons d l ih =>
    obtain ⟨N, h1, h2⟩ := ih fun d hd => h d (List.mem_cons_of_mem _ hd)
    obtain ⟨_, M, h3, h4⟩ := h d List.mem_cons_self
    refine ⟨M + N, .cons h3 h1, ?_⟩
    rw [List.length_cons, Nat.succ_mul]
    omega
theorem isL_append {S : Nat} {a b : List Dy} {N M : Int} (h : IsL S a N) (h' : IsL S b M) : IsL S (a ++ b) (N + M) := by
  induction h with
  | nil => rw [Int.zero_add]; exact h'
  | cons h _ ih => rw [Int.add_assoc]; exact .cons h ih

/-- a list cut in two -/
theorem dtotal_cut {D : List Dy} (hl : D.length ≤ 12) (h : ∀ d ∈ D, d ≠ none → Slim d) (k : Nat) : dadd (dtotal (D.take k)) (dtotal (D.drop k)) = dtotal D := by
  by_cases hno : none ∈ D
  · rw [← List.take_append_drop k D] at hno
    have hw : dtotal D = none := by unfold dtotal; rw [if_pos (by rw [← List.take_append_drop k D]; exact hno)]
    rw [hw]
    rcases List.mem_append.1 hno with h1 | h1
    · rw [show dtotal (D.take k) = none by unfold dtotal; rw [if_pos h1], dadd_none]
    · rw [show dtotal (D.drop k) = none by unfold dtotal; rw [if_pos h1], dadd_none']
  · have hs : ∀ d ∈ D, Slim d := fun d hd => h d hd (fun e => hno (by rw [← e]; exact hd))
    obtain ⟨N, i1, n1⟩ := isL_of (l := D.take k) fun d hd => hs d (List.mem_of_mem_take hd)
    obtain ⟨M, i2, n2⟩ := isL_of (l := D.drop k) fun d hd => hs d (List.mem_of_mem_drop hd)
    have i3 := isL_append i1 i2
    rw [List.take_append_drop] at i3
    have b4 : 16 * 2 ^ SB = 2 ^ (4 + SB) := by rw [Nat.pow_add]
    have c1 : (D.take k).length * 2 ^ SB + (D.drop k).length * 2 ^ SB < 16 * 2 ^ SB := by
      rw [← Nat.add_mul]
      refine Nat.mul_lt_mul_of_pos_right ?_ (Nat.pow_pos (by omega))
      rw [List.length_take, List.length_drop]; omega
    rw [b4] at c1
    have hB : 4 + SB ≤ 65536 := by have := SB_le; omega
    have a1 := dtotal_is i1 (by omega) (B := 4 + SB) (by omega) hB
    have a2 := dtotal_is i2 (by omega) (B := 4 + SB) (by omega) hB
    have a3 := dtotal_is i3 (by omega) (B := 4 + SB) (by omega) hB
    exact (a1.add a2 (by omega) (B := 4 + SB) (by omega) hB).unique a3
end Go.Proofs.YtilmighjcjgccaaDoor
