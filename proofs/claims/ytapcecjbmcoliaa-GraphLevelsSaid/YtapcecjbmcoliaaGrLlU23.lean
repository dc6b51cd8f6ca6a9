import Derived.Test.YtapcecjbmcoliaaGrLlU10
namespace Go.Proofs.Ytapcecjbmcoliaa

/-- joined both ways; the diagonal does not count -/
def adjT (t : List (List Bool)) (v w : Nat) : Bool := v != w && ((t.getD v []).getD w false || (t.getD w []).getD v false)
/-- the neighbours below j -/
def rowZ (a : Nat → Nat → Bool) (v j : Nat) : List Int := ((List.range j).filter (a v)).map fun (x : Nat) => (x : Int)
def adjM (n : Nat) (a : Nat → Nat → Bool) : List (List Int) := (List.range n).map fun v => rowZ a v n
structure GOk (a : Nat → Nat → Bool) : Prop where
  sym : ∀ v w, a v w = a w v
  irr : ∀ v, a v v = false
theorem adjT_ok (t : List (List Bool)) : GOk (adjT t) := ⟨fun v w => by
  unfold adjT
  rw [Bool.or_comm]
  congr 1
  rw [Bool.eq_iff_iff]
  simp only [bne_iff_ne, ne_eq]
  omega, fun v => by simp [adjT]⟩
theorem getD_true {l : List Bool} {w : Nat} (h : l.getD w false = true) : w < l.length := by
  rcases Nat.lt_or_ge w l.length with h1 | h1
  · exact h1
  · rw [List.getD, List.getElem?_eq_none h1] at h
    cases h
theorem adjT_lt {t : List (List Bool)} {n : Nat} (hl : t.length = n) (hw : ∀ i, i < n → (t.getD i []).length = n) {v w : Nat} (h : adjT t v w = true) : w < n := by
  unfold adjT at h
  rw [Bool.and_eq_true, Bool.or_eq_true] at h
  have key : ∀ {x y : Nat}, (t.getD x []).getD y false = true → x < n ∧ y < n := by
    intro x y h1
    have h2 := getD_true h1
    have h3 : x < n := by
      rcases Nat.lt_or_ge x t.length with h4 | h4
      · omega
      · rw [List.getD, List.getElem?_eq_none h4] at h2
        simp at h2
    rw [hw x h3] at h2
    exact ⟨h3, h2⟩
  rcases h.2 with h1 | h1
  · exact (key h1).2
  · exact (key h1).1
theorem adjM_len (n : Nat) (a : Nat → Nat → Bool) : (adjM n a).length = n := by simp [adjM]
theorem adjM_get {n i : Nat} (a : Nat → Nat → Bool) (h : i < n) : (adjM n a).getD i [] = rowZ a i n := by simp [adjM, List.getD, h]
theorem adjM_take {n i : Nat} {a : Nat → Nat → Bool} (h : i < n) : (adjM n a).take (i + 1) = (adjM n a).take i ++ [rowZ a i n] := by
  rw [List.take_succ_eq_append_getElem (by rw [adjM_len]; exact h)]
  simp [adjM]
theorem rowZ_yes {a : Nat → Nat → Bool} {v j : Nat} (h : a v j = true) : rowZ a v (j + 1) = rowZ a v j ++ [(j : Int)] := by
  unfold rowZ
  rw [List.range_succ, List.filter_append, List.map_append]
  simp [h]
theorem rowZ_no {a : Nat → Nat → Bool} {v j : Nat} (h : a v j = false) : rowZ a v (j + 1) = rowZ a v j := by
  unfold rowZ
  rw [List.range_succ, List.filter_append, List.map_append]
  simp [h]
theorem rowZ_le (a : Nat → Nat → Bool) (v j : Nat) : (rowZ a v j).length ≤ j := by
  unfold rowZ
  rw [List.length_map]
  exact Nat.le_trans (List.length_filter_le _ _) (by simp)
end Go.Proofs.Ytapcecjbmcoliaa
