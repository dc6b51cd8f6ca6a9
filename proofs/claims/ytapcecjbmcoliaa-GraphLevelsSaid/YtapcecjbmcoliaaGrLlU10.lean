import Derived.Test.YtapcecjbmcoliaaGrLlU9
namespace Go.Proofs.Ytapcecjbmcoliaa

/-- the vertices not seen yet that are joined to one of a list, ascending -/
def nxt (n : Nat) (adj : Nat → Nat → Bool) (seen : List Bool) (l : List Nat) : List Nat := (List.range n).filter fun w => !(seen.getD w false) && l.any fun v => adj v w
def markL (seen : List Bool) (l : List Nat) : List Bool := (List.range seen.length).map fun w => seen.getD w false || l.contains w
def levs (n : Nat) (adj : Nat → Nat → Bool) : Nat → List Bool → List Nat → List (List Nat)
  | 0, _, _ => []
  | f + 1, seen, l => if l = [] then [] else l :: levs n adj f (markL seen (nxt n adj seen l)) (nxt n adj seen l)
theorem mem_nxt {n : Nat} {adj : Nat → Nat → Bool} {seen : List Bool} {l : List Nat} {w : Nat} : w ∈ nxt n adj seen l ↔ w < n ∧ seen.getD w false = false ∧ ∃ v ∈ l, adj v w = true := by
  unfold nxt
  rw [List.mem_filter, List.mem_range, Bool.and_eq_true, List.any_eq_true]
  simp
theorem nxt_up (n : Nat) (adj : Nat → Nat → Bool) (seen : List Bool) (l : List Nat) : (nxt n adj seen l).Pairwise (· < ·) := List.Pairwise.filter _ List.pairwise_lt_range
theorem mark_len (seen : List Bool) (l : List Nat) : (markL seen l).length = seen.length := by simp [markL]
theorem mark_get {seen : List Bool} {l : List Nat} {w : Nat} (h : w < seen.length) : (markL seen l).getD w false = (seen.getD w false || l.contains w) := by simp [markL, List.getD, h]
/-- how many are not seen yet -/
def unseen (seen : List Bool) : Nat := seen.countP fun b => !b
theorem count_le {l k : List Bool} (h : l.length = k.length) (hs : ∀ w, w < l.length → k.getD w false = true → l.getD w false = true) : unseen l ≤ unseen k := by
  unfold unseen
  induction l generalizing k with
  | nil => simp
  | cons a l ih =>
    cases k with
    | nil => simp at h
    | cons b k =>
      have h0 := hs 0 (by simp)
      have h1 := ih (k := k) (by simpa using h) (fun w hw hk => by
        have := hs (w + 1) (by simpa using hw) (by simpa [List.getD] using hk)
        simpa [List.getD] using this)
      simp only [List.getD_cons_zero] at h0
      cases a <;> cases b <;> simp_all <;> omega
theorem count_lt {l k : List Bool} (h : l.length = k.length) (hs : ∀ w, w < l.length → k.getD w false = true → l.getD w false = true) {x : Nat} (hx : x < l.length) (h1 : l.getD x false = true) (h2 : k.getD x false = false) : unseen l < unseen k := by
  induction l generalizing k x with
  | nil => simp at hx
  | cons a l ih =>
    cases k with
    | nil => simp at h
    | cons b k =>
      have hs' : ∀ w, w < l.length → k.getD w false = true → l.getD w false = true := fun w hw hk => by
        have := hs (w + 1) (by simpa using hw) (by simpa [List.getD] using hk)
        simpa [List.getD] using this
      have h0 := hs 0 (by simp)
      simp only [List.getD_cons_zero] at h0
      cases x with
      | zero =>
        simp only [List.getD_cons_zero] at h1 h2
        subst h1
        subst h2
        have := count_le (l := l) (k := k) (by simpa using h) hs'
        unfold unseen at *
        simp
        omega
      | succ x =>
        have := ih (k := k) (x := x) (by simpa using h) hs' (by simpa using hx) (by simpa [List.getD] using h1) (by simpa [List.getD] using h2)
        unfold unseen at *
        cases a <;> cases b <;> simp_all <;> omega
theorem unseen_nxt {n : Nat} {adj : Nat → Nat → Bool} {seen : List Bool} {l : List Nat} (hn : seen.length = n) (h : nxt n adj seen l ≠ []) : unseen (markL seen (nxt n adj seen l)) < unseen seen := by
  obtain ⟨x, hx⟩ := List.exists_mem_of_ne_nil _ h
  have hm := mem_nxt.1 hx
  refine count_lt (mark_len _ _) (fun w hw hk => ?_) (x := x) (by rw [mark_len]; omega) ?_ hm.2.1
  · rw [mark_len] at hw
    rw [mark_get hw, hk]; rfl
  · rw [mark_get (by omega), hm.2.1]
    simpa using hx
/-- lists and what is seen fit -/
structure LevOk (n : Nat) (seen : List Bool) (l : List Nat) : Prop where
  len : seen.length = n
  up : l.Pairwise (· < ·)
  lt : ∀ v ∈ l, v < n
  seen : ∀ v ∈ l, seen.getD v false = true
theorem LevOk.next {n : Nat} {adj : Nat → Nat → Bool} {seen : List Bool} {l : List Nat} (h : LevOk n seen l) : LevOk n (markL seen (nxt n adj seen l)) (nxt n adj seen l) :=
  ⟨by rw [mark_len]; exact h.len, nxt_up _ _ _ _, fun _ hv => (mem_nxt.1 hv).1, fun v hv => by
    rw [mark_get (by rw [h.len]; exact (mem_nxt.1 hv).1)]
    simp [hv]⟩
theorem levs_ok {n : Nat} {adj : Nat → Nat → Bool} : ∀ (f : Nat) (seen : List Bool) (l : List Nat), LevOk n seen l → ∀ k ∈ levs n adj f seen l, k ≠ [] ∧ k.Pairwise (· < ·) ∧ ∀ v ∈ k, v < n
  | 0, _, _, _, k, hk => by cases hk
  | f + 1, seen, l, h, k, hk => by
    unfold levs at hk
    split at hk
    · cases hk
    · rename_i h0
      rcases List.mem_cons.1 hk with rfl | hk
      · exact ⟨h0, h.up, h.lt⟩
      · exact levs_ok f _ _ h.next k hk
/-- later lists hold none that is seen -/
theorem levs_new {n : Nat} {adj : Nat → Nat → Bool} : ∀ (f : Nat) (seen : List Bool) (l : List Nat), LevOk n seen l → ∀ i v, v ∈ (levs n adj f seen l).getD (i + 1) [] → seen.getD v false = false
  | 0, _, _, _, i, v, hv => by simp [levs] at hv
  | f + 1, seen, l, h, i, v, hv => by
    unfold levs at hv
    split at hv
    · simp at hv
    · rw [List.getD_cons_succ] at hv
      have hn : ∀ v ∈ nxt n adj seen l, seen.getD v false = false := fun v hv => (mem_nxt.1 hv).2.1
      cases i with
      | zero =>
        cases f with
        | zero => simp [levs] at hv
        | succ f =>
          unfold levs at hv
          split at hv
          · simp at hv
          · rw [List.getD_cons_zero] at hv
            exact hn v hv
      | succ i =>
        have h1 := levs_new f _ _ (h.next (adj := adj)) i v hv
        have hvn : v < n := by
          have hm : (levs n adj f (markL seen (nxt n adj seen l)) (nxt n adj seen l)).getD (i + 1) [] ∈ levs n adj f (markL seen (nxt n adj seen l)) (nxt n adj seen l) := by
            by_cases hl : i + 1 < (levs n adj f (markL seen (nxt n adj seen l)) (nxt n adj seen l)).length
            · simp only [List.getD, List.getElem?_eq_getElem hl]
              exact List.getElem_mem hl
            · rw [List.getD, List.getElem?_eq_none (by omega)] at hv
              cases hv
          exact (levs_ok f _ _ (h.next (adj := adj)) _ hm).2.2 v hv
        rw [mark_get (by rw [h.len]; exact hvn)] at h1
        exact (Bool.or_eq_false_iff.1 h1).1
theorem levs_apart {n : Nat} {adj : Nat → Nat → Bool} : ∀ (f : Nat) (seen : List Bool) (l : List Nat), LevOk n seen l → ∀ i j v, i < j → v ∈ (levs n adj f seen l).getD i [] → v ∈ (levs n adj f seen l).getD j [] → False
  | 0, _, _, _, i, j, v, _, hv, _ => by simp [levs] at hv
  | f + 1, seen, l, h, i, j, v, hij, hv, hw => by
    obtain ⟨j, rfl⟩ : ∃ j', j = j' + 1 := ⟨j - 1, by omega⟩
    have h1 := levs_new (adj := adj) (f + 1) seen l h j v hw
    unfold levs at hv hw
    split at hv
    · simp at hv
    · rename_i h0
      rw [if_neg h0, List.getD_cons_succ] at hw
      cases i with
      | zero =>
        rw [List.getD_cons_zero] at hv
        rw [h.seen v hv] at h1
        cases h1
      | succ i =>
        rw [List.getD_cons_succ] at hv
        exact levs_apart f _ _ (h.next (adj := adj)) i j v (by omega) hv hw
/-- a vertex of a later list is joined to one of the list before -/
theorem levs_before {n : Nat} {adj : Nat → Nat → Bool} : ∀ (f : Nat) (seen : List Bool) (l : List Nat), ∀ i v, v ∈ (levs n adj f seen l).getD (i + 1) [] → ∃ u ∈ (levs n adj f seen l).getD i [], adj u v = true
  | 0, _, _, i, v, hv => by simp [levs] at hv
  | f + 1, seen, l, i, v, hv => by
    unfold levs at hv ⊢
    split at hv
    · simp at hv
    · rename_i h0
      rw [if_neg h0]
      rw [List.getD_cons_succ] at hv
      cases i with
      | zero =>
        rw [List.getD_cons_zero]
        cases f with
        | zero => simp [levs] at hv
        | succ f =>
          unfold levs at hv
          split at hv
          · simp at hv
          · rw [List.getD_cons_zero] at hv
            exact (mem_nxt.1 hv).2.2
      | succ i =>
        rw [List.getD_cons_succ]
        exact levs_before f _ _ i v hv
/-- a neighbour is seen already, or in a list up to the next one -/
theorem levs_near {n : Nat} {adj : Nat → Nat → Bool} : ∀ (f : Nat) (seen : List Bool) (l : List Nat), LevOk n seen l → unseen seen < f → ∀ i v w, v ∈ (levs n adj f seen l).getD i [] → w < n → adj v w = true → seen.getD w false = true ∨ ∃ j, j ≤ i ∧ w ∈ (levs n adj f seen l).getD (j + 1) []
  | 0, _, _, _, hf, i, v, w, hv, _, _ => by omega
  | f + 1, seen, l, h, hf, i, v, w, hv, hw, ha => by
    unfold levs at hv ⊢
    split at hv
    · simp at hv
    · rename_i h0
      rw [if_neg h0]
      by_cases hs : seen.getD w false = true
      · exact Or.inl hs
      · right
        have hs' : seen.getD w false = false := by simpa using hs
        cases i with
        | zero =>
          rw [List.getD_cons_zero] at hv
          have hm : w ∈ nxt n adj seen l := mem_nxt.2 ⟨hw, hs', v, hv, ha⟩
          have hne : nxt n adj seen l ≠ [] := fun e => by rw [e] at hm; cases hm
          have := unseen_nxt h.len hne
          refine ⟨0, Nat.le_refl _, ?_⟩
          rw [List.getD_cons_succ]
          obtain ⟨f, rfl⟩ : ∃ f', f = f' + 1 := ⟨f - 1, by omega⟩
          unfold levs
          rw [if_neg hne, List.getD_cons_zero]
          exact hm
        | succ i =>
          rw [List.getD_cons_succ] at hv
          have hne : nxt n adj seen l ≠ [] := fun e => by
            rw [e] at hv
            cases f with
            | zero => simp [levs] at hv
            | succ f => unfold levs at hv; rw [if_pos rfl] at hv; simp at hv
          have hu := unseen_nxt h.len hne
          rcases levs_near f _ _ (h.next (adj := adj)) (by omega) i v w hv hw ha with h1 | ⟨j, h1, h2⟩
          · rw [mark_get (by rw [h.len]; exact hw), hs', Bool.false_or] at h1
            refine ⟨0, Nat.zero_le _, ?_⟩
            rw [List.getD_cons_succ]
            obtain ⟨f, rfl⟩ : ∃ f', f = f' + 1 := ⟨f - 1, by omega⟩
            unfold levs
            rw [if_neg hne, List.getD_cons_zero]
            simpa using h1
          · exact ⟨j + 1, by omega, by rw [List.getD_cons_succ]; exact h2⟩
/-- ascending lists with the same elements are the same -/
theorem up_same : ∀ {l k : List Nat}, l.Pairwise (· < ·) → k.Pairwise (· < ·) → (∀ x, x ∈ l ↔ x ∈ k) → l = k
  | [], [], _, _, _ => rfl
  | [], b :: k, _, _, h => by have := (h b).2 List.mem_cons_self; cases this
  | a :: l, [], _, _, h => by have := (h a).1 List.mem_cons_self; cases this
  | a :: l, b :: k, hl, hk, h => by
    obtain ⟨h1, h2⟩ := List.pairwise_cons.1 hl
    obtain ⟨h3, h4⟩ := List.pairwise_cons.1 hk
    have hab : a = b := by
      have e1 := (h a).1 List.mem_cons_self
      have e2 := (h b).2 List.mem_cons_self
      rcases List.mem_cons.1 e1 with e1 | e1
      · exact e1
      · rcases List.mem_cons.1 e2 with e2 | e2
        · exact e2.symm
        · have := h1 b e2
          have := h3 a e1
          omega
    subst hab
    rw [up_same h2 h4 fun x => ⟨fun hx => ?_, fun hx => ?_⟩]
    · have := h1 x hx
      rcases List.mem_cons.1 ((h x).1 (List.mem_cons_of_mem _ hx)) with e | e
      · omega
      · exact e
    · have := h3 x hx
      rcases List.mem_cons.1 ((h x).2 (List.mem_cons_of_mem _ hx)) with e | e
      · omega
      · exact e
end Go.Proofs.Ytapcecjbmcoliaa
