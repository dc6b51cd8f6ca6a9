import Derived.Test.YtapcecjbmcoliaaGrPlU9
namespace Go.Proofs.Ytapcecjbmcoliaa

theorem nxt_in {n : Nat} {adj : Nat → Nat → Bool} {P : Nat → Prop} (hP : ∀ v w, P v → adj v w = true → P w) {s : List Bool} {l : List Nat} (hl : ∀ v ∈ l, P v) : ∀ v ∈ nxt n adj s l, P v := fun w hw => by
  obtain ⟨_, _, v, hv, ha⟩ := mem_nxt.1 hw
  exact hP v w (hl v hv) ha
theorem levs_in {n : Nat} {adj : Nat → Nat → Bool} {P : Nat → Prop} (hP : ∀ v w, P v → adj v w = true → P w) : ∀ (f : Nat) (s : List Bool) (l : List Nat), (∀ v ∈ l, P v) → ∀ k ∈ levs n adj f s l, ∀ v ∈ k, P v
  | 0, _, _, _, k, hk, _, _ => by cases hk
  | f + 1, s, l, hl, k, hk, v, hv => by
    unfold levs at hk
    split at hk
    · cases hk
    · rcases List.mem_cons.1 hk with rfl | hk
      · exact hl v hv
      · exact levs_in hP f _ _ (nxt_in hP hl) k hk v hv
/-- what is seen behind all levels -/
def seenL (seen : List Bool) (ls : List (List Nat)) : List Bool := (List.range seen.length).map fun w => seen.getD w false || ls.any fun k => k.contains w
theorem seenL_len (seen : List Bool) (ls : List (List Nat)) : (seenL seen ls).length = seen.length := by simp [seenL]
theorem seenL_get {seen : List Bool} {ls : List (List Nat)} {w : Nat} (h : w < seen.length) : (seenL seen ls).getD w false = (seen.getD w false || ls.any fun k => k.contains w) := by simp [seenL, List.getD, h]
/-- what is not seen behind all levels is joined to nothing that is in them -/
theorem seenL_closed {n : Nat} {adj : Nat → Nat → Bool} {f : Nat} {seen : List Bool} {l : List Nat} (h : LevOk n seen l) (hf : unseen seen < f) {k : List Nat} (hk : k ∈ levs n adj f seen l) {v w : Nat} (hv : v ∈ k) (hw : w < n) (ha : adj v w = true) : (seenL seen (levs n adj f seen l)).getD w false = true := by
  rw [seenL_get (by rw [h.len]; exact hw), Bool.or_eq_true, List.any_eq_true]
  obtain ⟨i, hi, rfl⟩ := List.getElem_of_mem hk
  have hvi : v ∈ (levs n adj f seen l).getD i [] := by
    simp only [List.getD, List.getElem?_eq_getElem hi]
    exact hv
  rcases levs_near f seen l h hf i v w hvi hw ha with h1 | ⟨j, _, h2⟩
  · exact Or.inl h1
  · refine Or.inr ⟨(levs n adj f seen l).getD (j + 1) [], ?_, by simpa using h2⟩
    by_cases hl : j + 1 < (levs n adj f seen l).length
    · simp only [List.getD, List.getElem?_eq_getElem hl]
      exact List.getElem_mem hl
    · rw [List.getD, List.getElem?_eq_none (by omega)] at h2
      cases h2
/-- one vertex at the start -/
theorem start_ok {n r : Nat} (h : r < n) {seen : List Bool} (hl : seen.length = n) : LevOk n (seen.set r true) [r] := by
  refine ⟨by rw [List.length_set, hl], List.pairwise_singleton _ _, fun v hv => ?_, fun v hv => ?_⟩
  · rw [List.mem_singleton] at hv; omega
  · rw [List.mem_singleton] at hv
    subst hv
    simp [List.getD, show v < seen.length by omega]
/-- a list that is found without repetitions, sorted, is the next one -/
theorem found_next {n : Nat} {adj : Nat → Nat → Bool} {seen : List Bool} {l F G : List Nat} (hF : ∀ w, w ∈ F ↔ w < n ∧ seen.getD w false = false ∧ ∃ v ∈ l, adj v w = true) (hn : F.Nodup) (hG : G.Perm F) (hs : G.Pairwise (· ≤ ·)) : G = nxt n adj seen l := by
  refine up_same ?_ (nxt_up _ _ _ _) fun x => (hG.mem_iff).trans ((hF x).trans mem_nxt.symm)
  have hnG : G.Nodup := (hG.nodup_iff).2 hn
  exact (hs.and hnG).imp (fun h => Nat.lt_of_le_of_ne h.1 h.2)
end Go.Proofs.Ytapcecjbmcoliaa
