import Derived.Test.YtapcecjbmcoliaaGrLlU27
namespace Go.Proofs.Ytapcecjbmcoliaa

theorem levs_nil (n : Nat) (a : Nat → Nat → Bool) (f : Nat) (S : List Bool) : levs n a f S [] = [] := by cases f <;> simp [levs]
theorem levs_cons {n : Nat} {a : Nat → Nat → Bool} {f : Nat} {S : List Bool} {l : List Nat} (h : l ≠ []) : levs n a (f + 1) S l = l :: levs n a f (markL S (nxt n a S l)) (nxt n a S l) := by rw [levs, if_neg h]
theorem levs_len {n : Nat} {a : Nat → Nat → Bool} : ∀ (f : Nat) (S : List Bool) (l : List Nat), (levs n a f S l).length ≤ f
  | 0, _, _ => by simp [levs]
  | f + 1, S, l => by
    rw [levs]
    split
    · simp
    · have := levs_len (n := n) (a := a) f (markL S (nxt n a S l)) (nxt n a S l)
      rw [List.length_cons]
      omega
theorem unseen_le (S : List Bool) : unseen S ≤ S.length := by unfold unseen; exact List.countP_le_length
theorem seenL_mark (S : List Bool) (P : List (List Nat)) (k : List Nat) : markL (seenL S P) k = seenL S (P ++ [k]) := by
  refine list_same false (by rw [mark_len, seenL_len, seenL_len]) fun y hy => ?_
  rw [mark_len, seenL_len] at hy
  rw [mark_get (by rw [seenL_len]; exact hy), seenL_get hy, seenL_get hy, List.any_append]
  simp [Bool.or_assoc]
theorem seenL_one {n : Nat} {S : List Bool} {l : List Nat} (h : LevOk n S l) : seenL S [l] = S := by
  refine list_same false (seenL_len _ _) fun y hy => ?_
  rw [seenL_len] at hy
  rw [seenL_get hy]
  simp only [List.any_cons, List.any_nil, Bool.or_false]
  cases hc : l.contains y with
  | false => rw [Bool.or_false]
  | true =>
    rw [List.contains_iff_mem] at hc
    rw [h.seen y hc]
    rfl
theorem seenL_drop (S : List Bool) (P : List (List Nat)) : seenL S (P ++ [[]]) = seenL S P := by
  refine list_same false (by rw [seenL_len, seenL_len]) fun y hy => ?_
  rw [seenL_len] at hy
  rw [seenL_get hy, seenL_get hy, List.any_append]
  simp
/-- where the walk stands: P is done, l comes next -/
structure LevAt (n : Nat) (a : Nat → Nat → Bool) (S0 : List Bool) (l0 : List Nat) (P : List (List Nat)) (f : Nat) (S : List Bool) (l : List Nat) : Prop where
  all : levs n a (n + 1) S0 l0 = P ++ levs n a f S l
  few : l ≠ [] → unseen S < f
  ok : LevOk n S l
  seen : S = seenL S0 (P ++ [l])
theorem LevAt.start {n : Nat} {a : Nat → Nat → Bool} {S : List Bool} {l : List Nat} (h : LevOk n S l) : LevAt n a S l [] (n + 1) S l := by
  refine ⟨rfl, fun _ => ?_, h, ?_⟩
  · have := unseen_le S
    have := h.len
    omega
  · rw [List.nil_append, seenL_one h]
theorem LevAt.next {n : Nat} {a : Nat → Nat → Bool} {S0 S : List Bool} {l0 l : List Nat} {P : List (List Nat)} {f : Nat} (h : LevAt n a S0 l0 P f S l) (h0 : l ≠ []) : P.length ≤ n ∧ ∃ g, LevAt n a S0 l0 (P ++ [l]) g (markL S (nxt n a S l)) (nxt n a S l) := by
  have hf := h.few h0
  obtain ⟨g, rfl⟩ : ∃ g, f = g + 1 := ⟨f - 1, by omega⟩
  have h1 := h.all
  rw [levs_cons h0] at h1
  refine ⟨?_, g, ⟨by rw [h1]; simp, fun h2 => ?_, h.ok.next, ?_⟩⟩
  · have h2 := levs_len (n := n) (a := a) (n + 1) S0 l0
    rw [h1, List.length_append, List.length_cons] at h2
    omega
  · have := unseen_nxt h.ok.len h2
    omega
  · rw [← seenL_mark, ← h.seen]
theorem LevAt.done {n : Nat} {a : Nat → Nat → Bool} {S0 S : List Bool} {l0 : List Nat} {P : List (List Nat)} {f : Nat} (h : LevAt n a S0 l0 P f S []) : levs n a (n + 1) S0 l0 = P ∧ S = seenL S0 P := by
  have h1 := h.all
  have h2 := h.seen
  rw [levs_nil, List.append_nil] at h1
  rw [seenL_drop] at h2
  exact ⟨h1, h2⟩
end Go.Proofs.Ytapcecjbmcoliaa
