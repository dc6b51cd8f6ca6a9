/- The reference's sums, term after term, are the exact ones. No program stands here. -/
import Derived.Test.YtilmighjcjgccaaGreatDoorHi
import Derived.Test.YtilmighjcjgccaaGreatDoorHh
namespace Go.Proofs.YtilmighjcjgccaaGreatDoor

/-- the terms added one after the other -/
def foldS (l : List Dy) : Dy := l.foldl dadd (some (0, 0))
theorem foldS_nil : foldS [] = some (0, 0) := rfl
theorem foldS_snoc {D : List Dy} {j : Nat} (hj : j < D.length) : foldS (D.take (j + 1)) = dadd (foldS (D.take j)) (D.getD j none) := by
  unfold foldS
  rw [List.take_succ_eq_append_getElem hj, List.foldl_append]
  simp [List.getD, hj]
theorem foldl_none (l : List Dy) : l.foldl dadd none = none := by
  induction l with
  | nil => rfl
  | cons d l ih => rw [List.foldl_cons, dadd_none]; exact ih
theorem fold_mem {l : List Dy} (h : none ∈ l) (s : Dy) : l.foldl dadd s = none := by
  induction l generalizing s with
  | nil => simp at h
  | cons d l ih =>
    rw [List.foldl_cons]
    rcases List.mem_cons.1 h with e | h
    · rw [← e, dadd_none']; exact foldl_none l
    · exact ih h _
theorem zero_is (S : Nat) : Is (some (0, 0)) S 0 := ⟨0, 0, rfl, Or.inl ⟨rfl, rfl⟩, by omega, by simp⟩

theorem isL_snoc {S : Nat} {l : List Dy} {d : Dy} {N M : Int} (h : IsL S l N) (h' : Is d S M) : IsL S (l ++ [d]) (N + M) := by
  induction h with
  | nil => have := IsL.cons h' IsL.nil; rw [Int.add_zero] at this; rw [Int.zero_add]; exact this
  | cons h _ ih => rw [Int.add_assoc]; exact .cons h ih

theorem fold_total {S K : Nat} {l : List Dy} (hS : S ≤ 65536) (h : ∀ d ∈ l, ∃ N, Is d S N ∧ N.natAbs < 2 ^ K) (hl : l.length ≤ 1000000) (hK : K + 20 ≤ 65536) : foldS l = dtotal l := by
  have hb : ∀ j, j ≤ 1000000 → ∀ N : Int, N.natAbs ≤ j * 2 ^ K → N.natAbs < 2 ^ (K + 20) := by
    intro j hj N hN
    have h3 : j * 2 ^ K ≤ 1000000 * 2 ^ K := Nat.mul_le_mul_right _ hj
    have h4 : 1000000 * 2 ^ K < 2 ^ 20 * 2 ^ K := Nat.mul_lt_mul_of_pos_right (by omega) (Nat.pow_pos (by omega))
    rw [← Nat.pow_add, Nat.add_comm] at h4
    omega
  have main : ∀ j, j ≤ l.length → ∃ N, Is (foldS (l.take j)) S N ∧ IsL S (l.take j) N ∧ N.natAbs ≤ j * 2 ^ K := by
    intro j
    induction j with
    | zero => intro _; exact ⟨0, by rw [List.take_zero]; exact zero_is S, by rw [List.take_zero]; exact .nil, by simp⟩
    | succ j ih =>
      intro hj
      obtain ⟨N, i1, i2, i3⟩ := ih (by omega)
      have hjl : j < l.length := hj
      obtain ⟨M, m1, m2⟩ := h l[j] (List.getElem_mem hjl)
      have he : l.getD j none = l[j] := by simp [List.getD, hjl]
      have hN : (N + M).natAbs ≤ (j + 1) * 2 ^ K := by
        rw [Nat.add_mul, Nat.one_mul]
        have := Int.natAbs_add_le N M
        omega
      refine ⟨N + M, ?_, ?_, hN⟩
      · rw [foldS_snoc hjl, he]
        exact i1.add m1 hS (hb (j + 1) (by omega) _ hN) hK
      · rw [List.take_succ_eq_append_getElem hjl]
        exact isL_snoc i2 m1
  obtain ⟨N, i1, i2, i3⟩ := main l.length (Nat.le_refl _)
  rw [List.take_length] at i1 i2
  exact i1.unique (dtotal_is i2 hS (hb _ hl _ i3) hK)

theorem fdy_none {f : Nat} (h : finB f = false) : fdy f = none := by unfold fdy; rw [h]; rfl
theorem fold_floats {l : List Nat} (hl : l.length ≤ 1000000) : foldS (l.map fdy) = dtotal (l.map fdy) := by
  by_cases hf : ∀ f ∈ l, finB f = true
  · refine fold_total (S := 1074) (K := 52 + low46) (by omega) ?_ (by rw [List.length_map]; exact hl) (by rw [low46_le]; omega)
    intro d hd
    obtain ⟨f, hm, rfl⟩ := List.mem_map.1 hd
    refine ⟨fzs f, fdy_is (hf f hm), ?_⟩
    have h2 := fz_bound (hf f hm)
    rw [← fzs_abs] at h2
    exact h2
  · have : ∃ f ∈ l, finB f = false := by
      simp only [Classical.not_forall] at hf
      obtain ⟨f, hm, h⟩ := hf
      exact ⟨f, hm, by simpa using h⟩
    obtain ⟨f, hm, h⟩ := this
    have hn : none ∈ l.map fdy := List.mem_map.2 ⟨f, hm, fdy_none h⟩
    unfold dtotal
    rw [if_pos hn]
    exact fold_mem hn _
theorem mem_prods {x y : List Nat} {d : Dy} (h : d ∈ prods x y) : ∃ a b, a ∈ x ∧ b ∈ y ∧ d = dmul (fdy a) (fdy b) := by
  unfold prods at h
  induction x generalizing y with
  | nil => simp at h
  | cons a x ih =>
    cases y with
    | nil => simp at h
    | cons b y =>
      rw [List.zipWith_cons_cons] at h
      rcases List.mem_cons.1 h with rfl | h
      · exact ⟨a, b, List.mem_cons_self, List.mem_cons_self, rfl⟩
      · obtain ⟨a', b', h1, h2, h3⟩ := ih h
        exact ⟨a', b', List.mem_cons_of_mem _ h1, List.mem_cons_of_mem _ h2, h3⟩
theorem fold_prods {x y : List Nat} (hl : x.length ≤ 1000000) (hx : ∀ f ∈ x, finB f = true) (hy : ∀ f ∈ y, finB f = true) : foldS (prods x y) = dtotal (prods x y) := by
  refine fold_total (S := 1074 + 1074) (K := (52 + low46) + (52 + low46)) (by omega) ?_ (by unfold prods; rw [List.length_zipWith]; omega) (by rw [low46_le]; omega)
  intro d hd
  obtain ⟨a, b, ha, hb, rfl⟩ := mem_prods hd
  refine ⟨fzs a * fzs b, fdy_mul (hx a ha) (hy b hb), ?_⟩
  have h2 := fz_bound (hx a ha)
  have h2' := fz_bound (hy b hb)
  rw [← fzs_abs] at h2 h2'
  exact abs_mul_lt h2 h2'
theorem prods_is {x y : List Nat} (hl : x.length ≤ 1000000) (hx : ∀ f ∈ x, finB f = true) (hy : ∀ f ∈ y, finB f = true) : dtotal (prods x y) ≠ none := by
  obtain ⟨m, e, h, _⟩ := dotF_dy hx hy hl
  unfold prods
  rw [h]
  simp
theorem prods_none {x y : List Nat} (h0 : x.length = y.length) (h : x.all finB = false ∨ y.all finB = false) : dtotal (prods x y) = none := by
  have hm : none ∈ prods x y := by
    have key : ∀ (x y : List Nat), x.length = y.length → (∃ f ∈ x, finB f = false) ∨ (∃ f ∈ y, finB f = false) → none ∈ prods x y := by
      intro x
      induction x with
      | nil => intro y h0 h; cases y with
        | nil => simp at h
        | cons b y => simp at h0
      | cons a x ih => intro y h0 h; cases y with
        | nil => simp at h0
        | cons b y =>
          unfold prods
          rw [List.zipWith_cons_cons]
          rcases h with ⟨f, hf, h1⟩ | ⟨f, hf, h1⟩
          · rcases List.mem_cons.1 hf with rfl | hf
            · exact List.mem_cons.2 (Or.inl (by rw [fdy_none h1]; rfl))
            · exact List.mem_cons_of_mem _ (ih y (by simpa using h0) (Or.inl ⟨f, hf, h1⟩))
          · rcases List.mem_cons.1 hf with rfl | hf
            · exact List.mem_cons.2 (Or.inl (by rw [fdy_none h1]; exact (dmul_none' _).symm))
            · exact List.mem_cons_of_mem _ (ih y (by simpa using h0) (Or.inr ⟨f, hf, h1⟩))
    refine key x y h0 ?_
    rcases h with h | h
    · obtain ⟨f, h1, h2⟩ := List.all_eq_false.1 h
      exact Or.inl ⟨f, h1, by simpa using h2⟩
    · obtain ⟨f, h1, h2⟩ := List.all_eq_false.1 h
      exact Or.inr ⟨f, h1, by simpa using h2⟩
  unfold dtotal
  rw [if_pos hm]

/-- an inner product and its error; a residual and its error -/
def dotR (x y : List Nat) : Dy × Int := if x.length ≠ y.length then (some (0, 0), 2) else (chk (dtotal (prods x y)), chkE (dtotal (prods x y)))
def resR (b : Nat) (x y : List Nat) : Dy × Int := if (dotR x y).2 ≠ 0 then (some (0, 0), (dotR x y).2) else (chk (dsub (fdy b) (dotR x y).1), chkE (dsub (fdy b) (dotR x y).1))
end Go.Proofs.YtilmighjcjgccaaGreatDoor
