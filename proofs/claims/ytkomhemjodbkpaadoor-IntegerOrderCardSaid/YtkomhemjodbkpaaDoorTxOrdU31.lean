import Derived.Test.YtkomhemjodbkpaaDoorTxOrdU8
namespace Go.Proofs.YtkomhemjodbkpaaDoor
open Go Go.RowKit

theorem grpV_tlen (B : Nat) (D : List Nat) (m : Nat) (hm : m ≤ D.length) : grpV B (D.take m) = grpV B (D.take (tlen (D.map Int.ofNat) m)) := by
  induction m with
  | zero => rfl
  | succ m ih =>
    unfold tlen
    split
    · rename_i h
      have hl : m < D.length := by omega
      have h1 : D[m] = 0 := by
        rw [List.getD, List.getElem?_map, List.getElem?_eq_getElem hl] at h
        simpa using h
      rw [List.take_succ_eq_append_getElem hl, grpV_append, h1, ← ih (by omega)]
      simp [grpV]
    · rfl
theorem tlen_top (zs : List Int) (m j : Nat) (h : tlen zs m = j + 1) : zs.getD j 0 ≠ 0 := by
  induction m with
  | zero => simp [tlen] at h
  | succ m ih =>
    unfold tlen at h
    split at h
    · exact ih h
    · rename_i h0
      obtain rfl : m = j := by omega
      exact h0
/-- the indices that have come when k rounds are over -/
def backs (n k : Nat) : List Nat := (List.range k).map fun j => n - 1 - j
theorem backs_succ (n k : Nat) : backs n (k + 1) = backs n k ++ [n - 1 - k] := by simp [backs, List.range_succ]
theorem backs_len (n k : Nat) : (backs n k).length = k := by simp [backs]
theorem backs_all (D : List Nat) (n : Nat) (hn : n ≤ D.length) : (backs n n).map (fun i => D.getD i 0) = (D.take n).reverse := by
  apply List.ext_getElem
  · simp [backs, Nat.min_eq_left hn]
  · intro i h1 h2
    have hi : i < n := by simpa [backs] using h1
    have h3 : n - 1 - i < D.length := by omega
    simp only [backs, List.map_map, List.getElem_map, List.getElem_range, Function.comp, List.getElem_reverse, List.length_take, Nat.min_eq_left hn, List.getElem_take]
    rw [List.getD, List.getElem?_eq_getElem h3]; rfl
theorem dec_digs (K v n : Nat) (hv : v < 1000000000 ^ 2 ^ K) (hT : tlen ((digs K v).map Int.ofNat) (2 ^ K) = n + 1) :
    0 < (digs K v).getD n 0 ∧ n < 2 ^ K ∧ Go.Lib.decDigits v = Go.Lib.decDigits ((digs K v).getD n 0) ++ (backs n n).flatMap (fun i => padD 9 ((digs K v).getD i 0)) := by
  have hl := digs_zero_len K v
  have hn : n < 2 ^ K := by have := tlen_le ((digs K v).map Int.ofNat) (2 ^ K); omega
  have h0 : 0 < (digs K v).getD n 0 := by
    have := tlen_top _ _ _ hT
    rw [List.getD, List.getElem?_map, List.getElem?_eq_getElem (by omega)] at this
    rw [List.getD, List.getElem?_eq_getElem (by omega)]
    simp at this ⊢; omega
  refine ⟨h0, hn, ?_⟩
  have h1 := grpV_tlen 1000000000 (digs K v) (2 ^ K) (by omega)
  rw [hT, List.take_of_length_le (by omega), digs_val, List.take_succ_eq_append_getElem (by omega)] at h1
  have h2 : (digs K v)[n]'(by omega) = (digs K v).getD n 0 := by rw [List.getD, List.getElem?_eq_getElem (by omega)]; rfl
  rw [h2] at h1
  have h3 := dec_groups9 ((digs K v).take n) ((digs K v).getD n 0) h0 (fun x hx => digs_lt K v hv x (List.mem_of_mem_take hx))
  rw [← h1, ← backs_all _ _ (by omega), List.flatMap_map] at h3
  exact h3
theorem tlen_pos (K v : Nat) (h0 : 0 < v) : 0 < tlen ((digs K v).map Int.ofNat) (2 ^ K) := by
  rcases Nat.eq_zero_or_pos (tlen ((digs K v).map Int.ofNat) (2 ^ K)) with h | h
  · have h1 := grpV_tlen 1000000000 (digs K v) (2 ^ K) (by rw [digs_zero_len]; exact Nat.le_refl _)
    rw [h, List.take_of_length_le (by rw [digs_zero_len]; exact Nat.le_refl _), digs_val] at h1
    simp [grpV] at h1; omega
  · exact h
theorem digs_get (K v i : Nat) (hv : v < 1000000000 ^ 2 ^ K) : (digs K v).getD i 0 < 1000000000 := by
  rcases Nat.lt_or_ge i (digs K v).length with h | h
  · rw [List.getD, List.getElem?_eq_getElem h]
    exact digs_lt K v hv _ (List.getElem_mem h)
  · rw [List.getD, List.getElem?_eq_none h]; decide
theorem dec_len9 {t : Nat} (h : t < 1000000000) : (Go.Lib.decDigits t).length ≤ 9 := by
  have h1 := padD_dec 9 t (by omega) h
  have h2 := congrArg List.length h1
  rw [padD_length, List.length_append, List.length_replicate] at h2
  omega
theorem digs_int (K v i : Nat) : ((digs K v).map Int.ofNat)[i]?.getD 0 = ((digs K v).getD i 0 : Nat) := by
  rw [List.getElem?_map, List.getD]
  cases (digs K v)[i]? <;> rfl
end Go.Proofs.YtkomhemjodbkpaaDoor
