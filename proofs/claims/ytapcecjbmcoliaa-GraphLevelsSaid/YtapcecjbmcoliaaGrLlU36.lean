import Derived.Test.YtapcecjbmcoliaaGrLlU35
import Derived.Test.YtapcecjbmcoliaaGrLlU31
namespace Go.Proofs.Ytapcecjbmcoliaa

/-- the number of the first list that holds x, from 1 on; 0: none does -/
def lvl : List (List Nat) → Nat → Nat
  | [], _ => 0
  | k :: A, x => if k.contains x then 1 else if lvl A x = 0 then 0 else lvl A x + 1
theorem lvl_mem : ∀ {A : List (List Nat)} {x i : Nat}, lvl A x = i + 1 → x ∈ A.getD i []
  | [], x, i, h => by simp [lvl] at h
  | k :: A, x, i, h => by
    unfold lvl at h
    split at h
    · rename_i hc
      obtain rfl : i = 0 := by omega
      rw [List.getD_cons_zero]
      simpa using hc
    · split at h
      · omega
      · obtain ⟨i, rfl⟩ : ∃ j, i = j + 1 := ⟨i - 1, by omega⟩
        rw [List.getD_cons_succ]
        exact lvl_mem (by omega)
theorem lvl_least : ∀ {A : List (List Nat)} {x i : Nat}, x ∈ A.getD i [] → ∃ j, j ≤ i ∧ lvl A x = j + 1
  | [], x, i, h => by simp at h
  | k :: A, x, 0, h => by
    rw [List.getD_cons_zero] at h
    exact ⟨0, Nat.le_refl _, by unfold lvl; rw [if_pos (by simpa using h)]⟩
  | k :: A, x, i + 1, h => by
    rw [List.getD_cons_succ] at h
    obtain ⟨j, hj, e⟩ := lvl_least h
    unfold lvl
    split
    · exact ⟨0, Nat.zero_le _, rfl⟩
    · rw [if_neg (by omega), e]
      exact ⟨j + 1, by omega, rfl⟩
/-- lists that are apart -/
def Apart (A : List (List Nat)) : Prop := ∀ i j v, i < j → v ∈ A.getD i [] → v ∈ A.getD j [] → False
theorem lvl_of {A : List (List Nat)} (h : Apart A) {x i : Nat} (hx : x ∈ A.getD i []) : lvl A x = i + 1 := by
  obtain ⟨j, hj, e⟩ := lvl_least hx
  rcases Nat.lt_or_ge j i with h1 | h1
  · exact absurd (h j i x h1 (lvl_mem e) hx) id
  · rw [e, show j = i by omega]
theorem lev0_apart {n r : Nat} {a : Nat → Nat → Bool} (hr : r < n) : Apart (lev0 n a r) := fun i j v h h1 h2 => levs_apart _ _ _ (start_ok hr (by simp)) i j v h h1 h2
theorem lev0_adj {n r v w i : Nat} {a : Nat → Nat → Bool} (hr : r < n) (hw : w < n) (hv : v ∈ (lev0 n a r).getD i []) (ha : a v w = true) : ∃ j, j ≤ i + 1 ∧ w ∈ (lev0 n a r).getD j [] := by
  have hok := start_ok hr (seen := List.replicate n false) (by simp)
  have h1 := unseen_le ((List.replicate n false).set r true)
  rcases levs_near (n + 1) _ _ hok (by simp at h1; omega) i v w hv hw ha with h2 | ⟨j, hj, h2⟩
  · by_cases hrw : r = w
    · subst hrw
      obtain ⟨l, e⟩ := lev0_cons (n := n) (r := r) a
      exact ⟨0, by omega, by rw [e]; simp⟩
    · rw [set_off hrw] at h2
      have e : (List.replicate n false).getD w false = false := by simp [List.getD, hw]
      rw [e] at h2
      cases h2
  · exact ⟨j + 1, by omega, h2⟩
theorem lvl_near {n r v w : Nat} {a : Nat → Nat → Bool} (hg : GOk a) (hr : r < n) (hv : v < n) (hw : w < n) (ha : a v w = true) :
    lvl (lev0 n a r) v ≤ lvl (lev0 n a r) w + 1 ∧ lvl (lev0 n a r) w ≤ lvl (lev0 n a r) v + 1 ∧ (lvl (lev0 n a r) v = 0 ↔ lvl (lev0 n a r) w = 0) := by
  have hap := lev0_apart (a := a) hr
  have key : ∀ {x y i : Nat}, y < n → a x y = true → lvl (lev0 n a r) x = i + 1 → lvl (lev0 n a r) y ≤ i + 2 ∧ lvl (lev0 n a r) y ≠ 0 := by
    intro x y i hy hxy h
    obtain ⟨j, hj, hm⟩ := lev0_adj hr hy (lvl_mem h) hxy
    rw [lvl_of hap hm]
    omega
  have k1 := fun i => key (i := i) hw ha
  have k2 := fun i => key (i := i) hv (show a w v = true by rw [hg.sym]; exact ha)
  have h1 : lvl (lev0 n a r) v = 0 ∨ lvl (lev0 n a r) v = (lvl (lev0 n a r) v - 1) + 1 := by omega
  have h2 : lvl (lev0 n a r) w = 0 ∨ lvl (lev0 n a r) w = (lvl (lev0 n a r) w - 1) + 1 := by omega
  rcases h1 with h1 | h1
  · rcases h2 with h2 | h2
    · omega
    · have := k2 _ h2
      omega
  · have := k1 _ h1
    rcases h2 with h2 | h2
    · omega
    · have := k2 _ h2
      omega
theorem lvl_back {n r v : Nat} {a : Nat → Nat → Bool} (hg : GOk a) (hr : r < n) (h : 1 < lvl (lev0 n a r) v) : ∃ u ∈ rowN n a v, lvl (lev0 n a r) u + 1 = lvl (lev0 n a r) v := by
  obtain ⟨i, hi⟩ : ∃ i, lvl (lev0 n a r) v = (i + 1) + 1 := ⟨lvl (lev0 n a r) v - 2, by omega⟩
  obtain ⟨u, hu, ha⟩ := levs_before (adj := a) (n + 1) ((List.replicate n false).set r true) [r] i v (lvl_mem hi)
  have hul := lvl_of (lev0_apart hr) hu
  have hun : u < n := by
    have hm : (lev0 n a r).getD i [] ∈ lev0 n a r := by
      by_cases hl : i < (lev0 n a r).length
      · simp only [List.getD, List.getElem?_eq_getElem hl, Option.getD_some]
        exact List.getElem_mem hl
      · have hu2 : u ∈ (lev0 n a r).getD i [] := hu
        rw [List.getD, List.getElem?_eq_none (by omega)] at hu2
        cases hu2
    exact (lev0_ok hr _ hm).2.2 u hu
  exact ⟨u, mem_rowN.2 ⟨hun, by rw [hg.sym]; exact ha⟩, by omega⟩

/-- what has been written down of the levels -/
def mkAt (n : Nat) (A : List (List Nat)) (Vis : List Nat) : List Int := (List.range n).map fun x => if Vis.contains x then (lvl A x : Int) else 0
theorem mkAt_len (n : Nat) (A : List (List Nat)) (Vis : List Nat) : (mkAt n A Vis).length = n := by simp [mkAt]
theorem mkAt_get {n x : Nat} (A : List (List Nat)) (Vis : List Nat) (h : x < n) : (mkAt n A Vis).getD x 0 = if Vis.contains x then (lvl A x : Int) else 0 := by simp [mkAt, List.getD, h]
theorem mkAt_nil (n : Nat) (A : List (List Nat)) : mkAt n A [] = List.replicate n 0 := by
  refine list_same 0 (by rw [mkAt_len]; simp) fun x hx => ?_
  rw [mkAt_len] at hx
  rw [mkAt_get A [] hx]
  simp [List.getD, hx]
theorem mkAt_set {n v : Nat} {A : List (List Nat)} {Vis : List Nat} {c : Int} (hc : (lvl A v : Int) = c) : (mkAt n A Vis).set v c = mkAt n A (Vis ++ [v]) := by
  refine list_same 0 (by rw [List.length_set, mkAt_len, mkAt_len]) fun x hx => ?_
  rw [List.length_set, mkAt_len] at hx
  rw [mkAt_get A _ hx]
  by_cases h : v = x
  · subst h
    rw [set_at (by rw [mkAt_len]; exact hx)]
    simp [hc]
  · rw [set_off h, mkAt_get A _ hx]
    have e : (Vis ++ [v]).contains x = Vis.contains x := by
      rw [Bool.eq_iff_iff, List.contains_iff_mem, List.contains_iff_mem, List.mem_append, List.mem_singleton]
      constructor
      · rintro (h1 | h1)
        · exact h1
        · exact absurd h1.symm h
      · exact Or.inl
    rw [e]
theorem mkAt_all {n x : Nat} {A : List (List Nat)} (hx : x < n) : (mkAt n A A.flatten).getD x 0 = (lvl A x : Int) := by
  rw [mkAt_get A _ hx]
  split
  · rfl
  · rename_i h
    rw [List.contains_iff_mem, List.mem_flatten] at h
    have : lvl A x = 0 := by
      rcases Nat.eq_zero_or_pos (lvl A x) with h1 | h1
      · exact h1
      · have hm := lvl_mem (A := A) (x := x) (i := lvl A x - 1) (by omega)
        exfalso
        refine h ⟨A.getD (lvl A x - 1) [], ?_, hm⟩
        by_cases hl : lvl A x - 1 < A.length
        · simp only [List.getD, List.getElem?_eq_getElem hl, Option.getD_some]
          exact List.getElem_mem hl
        · rw [List.getD, List.getElem?_eq_none (by omega)] at hm
          cases hm
    rw [this]
    rfl
/-- the vertices ahead of the element k of the list i -/
def visL (A : List (List Nat)) (i k : Nat) : List Nat := (A.take i).flatten ++ (A.getD i []).take k
theorem visL_zero (A : List (List Nat)) (i : Nat) : visL A i 0 = (A.take i).flatten := by simp [visL]
theorem visL_next {A : List (List Nat)} {i k : Nat} (h : k < (A.getD i []).length) : visL A i (k + 1) = visL A i k ++ [(A.getD i []).getD k 0] := by
  unfold visL
  generalize A.getD i [] = l at *
  rw [List.take_succ_eq_append_getElem h, List.append_assoc]
  simp only [List.getD, List.getElem?_eq_getElem h, Option.getD_some]
theorem visL_end {A : List (List Nat)} {i : Nat} (h : i < A.length) : visL A i (A.getD i []).length = visL A (i + 1) 0 := by
  rw [visL_zero]
  unfold visL
  rw [List.take_length, List.take_succ_eq_append_getElem h, List.flatten_append]
  simp [List.getD, h]
theorem visL_new {A : List (List Nat)} (hap : Apart A) {i k : Nat} (hk : k < (A.getD i []).length) (hup : (A.getD i []).Pairwise (· < ·)) : (visL A i k).contains ((A.getD i []).getD k 0) = false := by
  have hx : (A.getD i []).getD k 0 ∈ A.getD i [] := by
    generalize A.getD i [] = l at *
    simp only [List.getD, List.getElem?_eq_getElem hk, Option.getD_some]
    exact List.getElem_mem hk
  rw [← Bool.not_eq_true, List.contains_iff_mem]
  intro hm
  unfold visL at hm
  rcases List.mem_append.1 hm with h1 | h1
  · obtain ⟨l, hl, h2⟩ := List.mem_flatten.1 h1
    obtain ⟨j, hj, rfl⟩ := List.getElem_of_mem hl
    rw [List.length_take] at hj
    rw [List.getElem_take] at h2
    exact hap j i _ (by omega) (by simp only [List.getD, List.getElem?_eq_getElem (show j < A.length by omega), Option.getD_some]; exact h2) hx
  · generalize A.getD i [] = l at *
    obtain ⟨j, hj, h2⟩ := List.getElem_of_mem h1
    rw [List.length_take] at hj
    rw [List.getElem_take] at h2
    have h3 := List.pairwise_iff_getElem.1 hup j k (by omega) hk (by omega)
    rw [h2] at h3
    simp only [List.getD, List.getElem?_eq_getElem hk, Option.getD_some] at h3
    omega
end Go.Proofs.Ytapcecjbmcoliaa
