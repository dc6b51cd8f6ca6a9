import Derived.Test.YtapcecjbmcoliaaGrLlU14
import Derived.Test.YtapcecjbmcoliaaGrLlU15
namespace Go.Proofs.Ytapcecjbmcoliaa
open Go Go.RowKit

/-- the matrix, the pivots' columns, the factor -/
structure Ech where
  M : List (List Int)
  L : List Int
  f : Int
def stepE (p : Int) (col : Nat) (S : Ech) : Ech :=
  let R := findR S.M col (S.M.length - S.L.length) S.L.length
  if R = S.M.length then S
  else ⟨clearM p S.L.length col (scaleM p S.L.length col (swapL S.M S.L.length R [])), S.L ++ [(col : Int)], (if R = S.L.length then S.f else -S.f % p) * ((swapL S.M S.L.length R []).getD S.L.length []).getD col 0 % p⟩
/-- n rows of c residues -/
structure EOk (p : Int) (n c : Nat) (S : Ech) : Prop where
  len : S.M.length = n
  row : ∀ i, i < n → (S.M.getD i []).length = c
  res : Res p S.M
  pl : S.L.length ≤ n
  f : 0 ≤ S.f ∧ S.f < p
theorem res_get {p : Int} {M : List (List Int)} (h : ∀ i, i < M.length → ∀ j, j < (M.getD i []).length → 0 ≤ (M.getD i []).getD j 0 ∧ (M.getD i []).getD j 0 < p) : Res p M := by
  intro l hl x hx
  obtain ⟨i, hi, rfl⟩ := List.getElem_of_mem hl
  obtain ⟨j, hj, rfl⟩ := List.getElem_of_mem hx
  have := h i hi j (by simpa [List.getD, hi] using hj)
  simpa [List.getD, hi, hj] using this
theorem scale_at {p : Int} {np col : Nat} {M : List (List Int)} (h : np < M.length) (i : Nat) : (scaleM p np col M).getD i [] = if i = np then scaleRow p (invZ ((M.getD np []).getD col 0) p) (M.getD np []) else M.getD i [] := by
  unfold scaleM
  by_cases h1 : i = np
  · subst h1; rw [if_pos rfl, set_at h]
  · rw [if_neg h1, set_off (Ne.symm h1)]
theorem clear_at {p : Int} {np col : Nat} {M : List (List Int)} {i : Nat} (h : i < M.length) : (clearM p np col M).getD i [] = if i = np then M.getD i [] else elimRow p col (M.getD np []) (M.getD i []) := by
  simp [clearM, List.getD, h]
theorem EOk.swap {p : Int} {n c : Nat} {M : List (List Int)} {i j : Nat} (h : M.length = n) (hr : ∀ i, i < n → (M.getD i []).length = c) (hres : Res p M) (hi : i < n) (hj : j < n) :
    (swapL M i j []).length = n ∧ (∀ k, k < n → ((swapL M i j []).getD k []).length = c) ∧ Res p (swapL M i j []) := by
  refine ⟨by rw [swap_len, h], fun k hk => ?_, res_get fun k hk x hx => ?_⟩
  · rw [swap_get [] (by omega) (by omega)]; exact hr _ (swI_lt hi hj hk)
  · rw [swap_len, h] at hk
    rw [swap_get [] (by omega) (by omega)] at hx ⊢
    exact hres.at (by rw [h]; exact swI_lt hi hj hk) hx
theorem EOk.step {p : Int} {n c col : Nat} {S : Ech} (hp : 2 ≤ p) (h : EOk p n c S) : EOk p n c (stepE p col S) := by
  unfold stepE
  simp only
  obtain ⟨R, hR⟩ : ∃ R, findR S.M col (S.M.length - S.L.length) S.L.length = R := ⟨_, rfl⟩
  rw [hR]
  by_cases hn : R = S.M.length
  · rw [if_pos hn]; exact h
  · rw [if_neg hn]
    have hRl : S.L.length ≤ R ∧ R < n := by
      have hb : ∀ f r, r ≤ findR S.M col f r ∧ findR S.M col f r ≤ r + f := by
        intro f
        induction f with
        | zero => intro r; exact ⟨Nat.le_refl _, Nat.le_refl _⟩
        | succ f ih =>
          intro r
          unfold findR
          split
          · have := ih (r + 1); omega
          · omega
      have := hb (S.M.length - S.L.length) S.L.length
      rw [hR] at this
      have := h.len
      have := h.pl
      omega
    have hnp : S.L.length < n := by omega
    obtain ⟨a1, a2, a3⟩ := EOk.swap h.len h.row h.res hnp hRl.2
    generalize swapL S.M S.L.length R [] = M1 at *
    have b1 : (scaleM p S.L.length col M1).length = n := by unfold scaleM; rw [List.length_set, a1]
    have b2 : ∀ i, i < n → ((scaleM p S.L.length col M1).getD i []).length = c := fun i hi => by
      rw [scale_at (by omega)]
      split
      · unfold scaleRow; simp only [List.length_map, List.length_range]; exact a2 _ hnp
      · exact a2 i hi
    have b3 : Res p (scaleM p S.L.length col M1) := res_get fun i hi x hx => by
      rw [b1] at hi
      rw [b2 i hi] at hx
      rw [scale_at (by omega)]
      split
      · have e : (scaleRow p (invZ ((M1.getD S.L.length []).getD col 0) p) (M1.getD S.L.length [])).getD x 0 = (M1.getD S.L.length []).getD x 0 * invZ ((M1.getD S.L.length []).getD col 0) p % p := by
          simp [scaleRow, List.getD, show x < (M1[S.L.length]?.getD []).length from by have := a2 _ hnp; simp only [List.getD] at this; omega]
        rw [e]
        exact ⟨Int.emod_nonneg _ (by omega), Int.emod_lt_of_pos _ (by omega)⟩
      · exact a3.at (by omega) (by rw [a2 i hi]; exact hx)
    generalize scaleM p S.L.length col M1 = M2 at *
    refine ⟨by rw [clear_len, b1], fun i hi => ?_, res_get fun i hi x hx => ?_, by simp only [List.length_append, List.length_singleton]; omega, Int.emod_nonneg _ (by omega), Int.emod_lt_of_pos _ (by omega)⟩
    · rw [clear_at (by omega)]
      split
      · exact b2 i hi
      · rw [elim_len]; exact b2 i hi
    · rw [clear_len, b1] at hi
      rw [clear_at (by omega)] at hx ⊢
      split at hx
      · rename_i h1
        rw [if_pos h1]
        exact b3.at (by omega) hx
      · rename_i h1
        rw [if_neg h1]
        rw [elim_len, b2 i hi] at hx
        unfold elimRow
        split
        · exact b3.at (by omega) (by rw [b2 i hi]; exact hx)
        · have e : ((List.range (M2.getD i []).length).map fun x => ((M2.getD i []).getD x 0 + (p - (M2.getD i []).getD col 0) * (M2.getD S.L.length []).getD x 0) % p).getD x 0 = ((M2.getD i []).getD x 0 + (p - (M2.getD i []).getD col 0) * (M2.getD S.L.length []).getD x 0) % p := by
            simp [List.getD, show x < (M2[i]?.getD []).length from by have := b2 i hi; simp only [List.getD] at this; omega]
          rw [e]
          exact ⟨Int.emod_nonneg _ (by omega), Int.emod_lt_of_pos _ (by omega)⟩
end Go.Proofs.Ytapcecjbmcoliaa
