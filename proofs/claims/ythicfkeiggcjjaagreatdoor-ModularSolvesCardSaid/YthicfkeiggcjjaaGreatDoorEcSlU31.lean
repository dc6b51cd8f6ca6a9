import Derived.Test.YthicfkeiggcjjaaGreatDoorEcSlU30
import Derived.Test.YthicfkeiggcjjaaGreatDoorEcSlU28
namespace Go.Proofs.YthicfkeiggcjjaaGreatDoor
open Go Go.RowKit

/-- the first n columns alone -/
def cutM (n : Nat) (M : List (List Int)) : List (List Int) := M.map (·.take n)
def cutE (n : Nat) (S : Ech) : Ech := ⟨cutM n S.M, S.L, S.f⟩
theorem cut_get (n : Nat) (M : List (List Int)) (i : Nat) : (cutM n M).getD i [] = (M.getD i []).take n := by
  by_cases h : i < M.length
  · simp [cutM, List.getD, h]
  · simp [cutM, List.getD, h]
theorem cut_len (n : Nat) (M : List (List Int)) : (cutM n M).length = M.length := by simp [cutM]
theorem take_get {l : List Int} {n x : Nat} (h : x < n) : (l.take n).getD x 0 = l.getD x 0 := by
  simp [List.getD, h]
theorem cut_find {n col : Nat} {M : List (List Int)} (h : col < n) : ∀ f r, findR (cutM n M) col f r = findR M col f r
  | 0, _ => rfl
  | f + 1, r => by
    unfold findR
    rw [cut_get, take_get h, cut_find h f (r + 1)]
theorem cut_set (n : Nat) (M : List (List Int)) (i : Nat) (l : List Int) : cutM n (M.set i l) = (cutM n M).set i (l.take n) := by
  unfold cutM; rw [List.map_set]
theorem cut_swap (n : Nat) (M : List (List Int)) (i j : Nat) : swapL (cutM n M) i j [] = cutM n (swapL M i j []) := by
  unfold swapL
  rw [cut_set, cut_set, cut_get, cut_get]
theorem range_take (f : Nat → Int) (k n : Nat) : ((List.range k).map f).take n = (List.range (min n k)).map f := by
  refine list_same 0 (by simp) fun x hx => ?_
  have hx' : x < n ∧ x < k := by
    simp only [List.length_take, List.length_map, List.length_range] at hx; omega
  rw [take_get hx'.1]
  simp [List.getD, hx'.2, show x < min n k by omega]
theorem cut_scaleRow (p inv : Int) (n : Nat) (l : List Int) : scaleRow p inv (l.take n) = (scaleRow p inv l).take n := by
  unfold scaleRow
  rw [range_take, List.length_take]
  refine List.map_congr_left fun x hx => ?_
  have hx' : x < min n l.length := by simpa using hx
  rw [take_get (by omega)]
theorem cut_scale {p : Int} {n k col : Nat} {M : List (List Int)} (h : col < n) : scaleM p k col (cutM n M) = cutM n (scaleM p k col M) := by
  unfold scaleM
  rw [cut_set, cut_get, take_get h, cut_scaleRow]
theorem cut_elim {p : Int} {n col : Nat} {piv row : List Int} (h : col < n) : elimRow p col (piv.take n) (row.take n) = (elimRow p col piv row).take n := by
  unfold elimRow
  rw [take_get h]
  split
  · rfl
  · rw [range_take, List.length_take]
    refine List.map_congr_left fun x hx => ?_
    have hx' : x < min n row.length := by simpa using hx
    rw [take_get (by omega), take_get (by omega)]
theorem cut_clear {p : Int} {n k col : Nat} {M : List (List Int)} (h : col < n) : clearM p k col (cutM n M) = cutM n (clearM p k col M) := by
  have e : cutM n (clearM p k col M) = (List.range M.length).map fun i => (if i = k then M.getD i [] else elimRow p col (M.getD k []) (M.getD i [])).take n := by
    unfold cutM clearM
    rw [List.map_map]
    rfl
  rw [e]
  unfold clearM
  rw [cut_len]
  refine List.map_congr_left fun i _ => ?_
  rw [cut_get, cut_get]
  by_cases hk : i = k
  · rw [if_pos hk, if_pos hk]
  · rw [if_neg hk, if_neg hk, cut_elim h]
theorem cut_step {p : Int} {n col : Nat} {S : Ech} (h : col < n) : stepE p col (cutE n S) = cutE n (stepE p col S) := by
  obtain ⟨R, hR⟩ : ∃ R, findR S.M col (S.M.length - S.L.length) S.L.length = R := ⟨_, rfl⟩
  have hR2 : findR (cutE n S).M col ((cutE n S).M.length - (cutE n S).L.length) (cutE n S).L.length = R := by
    show findR (cutM n S.M) col ((cutM n S.M).length - S.L.length) S.L.length = R
    rw [cut_len, cut_find h]; exact hR
  have hl : (cutE n S).M.length = S.M.length := cut_len n S.M
  by_cases hn : R = S.M.length
  · rw [step_none (hR.trans hn), step_none (hR2.trans (hn.trans hl.symm))]
  · rw [step_some hR hn, step_some hR2 (by rw [hl]; exact hn)]
    show Ech.mk (clearM p S.L.length col (scaleM p S.L.length col (swapL (cutM n S.M) S.L.length R []))) (S.L ++ [(col : Int)]) ((if R = S.L.length then S.f else -S.f % p) * ((swapL (cutM n S.M) S.L.length R []).getD S.L.length []).getD col 0 % p) =
      Ech.mk (cutM n (clearM p S.L.length col (scaleM p S.L.length col (swapL S.M S.L.length R [])))) (S.L ++ [(col : Int)]) ((if R = S.L.length then S.f else -S.f % p) * ((swapL S.M S.L.length R []).getD S.L.length []).getD col 0 % p)
    rw [cut_swap, cut_scale h, cut_clear h, cut_get, take_get h]
theorem cut_reduce {p : Int} {n : Nat} : ∀ (k col : Nat) (S : Ech), col + k ≤ n → reduceE p k col (cutE n S) = cutE n (reduceE p k col S)
  | 0, _, _, _ => rfl
  | k + 1, col, S, h => by
    show reduceE p k (col + 1) (stepE p col (cutE n S)) = cutE n (reduceE p k (col + 1) (stepE p col S))
    rw [cut_step (by omega), cut_reduce k (col + 1) _ (by omega)]

theorem reduce_add {p : Int} : ∀ (a b col : Nat) (S : Ech), reduceE p (a + b) col S = reduceE p b (col + a) (reduceE p a col S)
  | 0, b, col, S => by rw [Nat.zero_add]; rfl
  | a + 1, b, col, S => by
    rw [show a + 1 + b = (a + b) + 1 by omega]
    show reduceE p (a + b) (col + 1) (stepE p col S) = _
    rw [reduce_add a b (col + 1)]
    show _ = reduceE p b (col + (a + 1)) (reduceE p a (col + 1) (stepE p col S))
    rw [show col + 1 + a = col + (a + 1) by omega]
/-- ascending columns below col -/
structure Asc (col : Nat) (L : List Int) : Prop where
  up : ∀ i j, i < j → j < L.length → L.getD i 0 < L.getD j 0
  lo : ∀ i, i < L.length → 0 ≤ L.getD i 0
  hi : ∀ i, i < L.length → L.getD i 0 < (col : Int)
theorem Asc.nil (col : Nat) : Asc col [] := ⟨fun _ _ _ h => absurd h (Nat.not_lt_zero _), fun _ h => absurd h (Nat.not_lt_zero _), fun _ h => absurd h (Nat.not_lt_zero _)⟩
theorem Asc.one {col : Nat} {L : List Int} (h : Asc col L) : Asc (col + 1) L := ⟨h.up, h.lo, fun i hi => by have := h.hi i hi; omega⟩
theorem Asc.more {col : Nat} {L : List Int} (h : Asc col L) : Asc (col + 1) (L ++ [(col : Int)]) := by
  have hl : (L ++ [(col : Int)]).length = L.length + 1 := by simp
  refine ⟨fun i j hij hj => ?_, fun i hi => ?_, fun i hi => ?_⟩
  · rw [hl] at hj
    rw [getD_app (by omega)]
    by_cases h1 : j < L.length
    · rw [getD_app h1]; exact h.up i j hij h1
    · obtain rfl : L.length = j := by omega
      rw [getD_end]; exact h.hi i hij
  · rw [hl] at hi
    by_cases h1 : i < L.length
    · rw [getD_app h1]; exact h.lo i h1
    · obtain rfl : L.length = i := by omega
      rw [getD_end]; omega
  · rw [hl] at hi
    by_cases h1 : i < L.length
    · rw [getD_app h1]; have := h.hi i h1; omega
    · obtain rfl : L.length = i := by omega
      rw [getD_end]; omega
theorem Asc.step {p : Int} {col : Nat} {S : Ech} (h : Asc col S.L) : Asc (col + 1) (stepE p col S).L := by
  unfold stepE
  simp only
  split
  · exact h.one
  · exact h.more
theorem Asc.reduce {p : Int} : ∀ (k col : Nat) (S : Ech), Asc col S.L → Asc (col + k) (reduceE p k col S).L
  | 0, _, _, h => h
  | k + 1, col, S, h => by
    have := Asc.reduce (p := p) k (col + 1) _ (h.step (p := p))
    rw [show col + (k + 1) = col + 1 + k by omega]
    exact this
theorem Asc.gap {col : Nat} {L : List Int} (h : Asc col L) {i : Nat} : ∀ d, i + d < L.length → L.getD i 0 + d ≤ L.getD (i + d) 0
  | 0, _ => by simp
  | d + 1, hd => by
    have h1 := Asc.gap h (i := i) d (by omega)
    have h2 := h.up (i + d) (i + (d + 1)) (by omega) hd
    omega
theorem Asc.ge {col : Nat} {L : List Int} (h : Asc col L) {i : Nat} (hi : i < L.length) : (i : Int) ≤ L.getD i 0 := by
  have := h.gap (i := 0) i (by omega)
  have := h.lo 0 (by omega)
  rw [Nat.zero_add] at *
  omega
theorem Asc.len {col : Nat} {L : List Int} (h : Asc col L) : L.length ≤ col := by
  rcases Nat.eq_zero_or_pos L.length with h0 | h0
  · omega
  · have := h.ge (i := L.length - 1) (by omega)
    have := h.hi (L.length - 1) (by omega)
    omega
theorem freeL_stop (L : List Int) : ∀ f i R, freeL L f i = R → R < i + f → L.getD R 0 ≠ (R : Int)
  | 0, i, R, h, h2 => by unfold freeL at h; omega
  | f + 1, i, R, h, h2 => by
    by_cases h0 : L.getD i 0 = (i : Int)
    · rw [freeL_go h0] at h
      exact freeL_stop L f (i + 1) R h (by omega)
    · rw [freeL_at h0] at h
      subst h
      exact h0
theorem Asc.beyond {col R k : Nat} {L : List Int} (h : Asc col L) (hR : freeL L L.length 0 = R) (hk : R ≤ k) (hl : k < L.length) : (R : Int) < L.getD k 0 := by
  have h1 := h.ge (i := R) (by omega)
  have h2 := freeL_stop L L.length 0 R hR (by omega)
  have h3 := h.gap (i := R) (k - R) (by omega)
  rw [show R + (k - R) = k by omega] at h3
  omega
theorem Asc.full {col R : Nat} {L : List Int} (h : Asc col L) (hR : freeL L L.length 0 = R) : L.length = col ↔ R = col := by
  have hle := h.len
  have h1 := freeL_le L L.length 0
  rw [hR] at h1
  constructor
  · intro hl
    rcases Nat.lt_or_ge R col with h2 | h2
    · exfalso
      have h3 := h.beyond hR (k := R) (Nat.le_refl _) (by omega)
      have h4 := h.gap (i := R) (L.length - 1 - R) (by omega)
      have h5 := h.hi (R + (L.length - 1 - R)) (by omega)
      omega
    · omega
  · intro h2; omega
theorem range_far {f : Nat → Int} {k x : Nat} (h : ¬ x < k) : ((List.range k).map f).getD x 0 = 0 := by simp [List.getD, h]
/-- the elements of the column in the rows from r on are zero -/
def Zer (x r : Nat) (M : List (List Int)) : Prop := ∀ i, r ≤ i → i < M.length → (M.getD i []).getD x 0 = 0
theorem Zer.step {p : Int} {n c col x r : Nat} {S : Ech} (hok : EOk p n c S) (h : Zer x r S.M) (hr : r ≤ S.L.length) : Zer x r (stepE p col S).M ∧ r ≤ (stepE p col S).L.length := by
  obtain ⟨R, hR⟩ : ∃ R, findR S.M col (S.M.length - S.L.length) S.L.length = R := ⟨_, rfl⟩
  by_cases hn : R = S.M.length
  · rw [step_none (hR.trans hn)]; exact ⟨h, hr⟩
  · rw [step_some hR hn]
    have hb := find_lt hok hR
    have hl := hok.len
    refine ⟨?_, by simp only [List.length_append]; omega⟩
    show Zer x r (clearM _ _ _ _)
    obtain ⟨k, hk⟩ : ∃ k, S.L.length = k := ⟨_, rfl⟩
    rw [hk] at hb hr ⊢
    have z1 : Zer x r (swapL S.M k R []) := by
      intro i h1 h2
      rw [swap_len] at h2
      rw [swap_get [] (by omega) (by omega)]
      refine h _ ?_ ?_
      · unfold swI; split <;> (try split) <;> omega
      · exact swI_lt (by omega) (by omega) h2
    have l1 : (swapL S.M k R []).length = n := by rw [swap_len, hl]
    generalize swapL S.M k R [] = M1 at *
    have z2 : Zer x r (scaleM p k col M1) := by
      intro i h1 h2
      have h2' : i < n := by unfold scaleM at h2; rw [List.length_set, l1] at h2; exact h2
      rw [scale_at (by omega)]
      split
      · have z := z1 k (by omega) (by omega)
        unfold scaleRow
        by_cases hx : x < (M1.getD k []).length
        · have hx' : x < (M1[k]?.getD []).length := by simpa [List.getD] using hx
          have e : ((List.range (M1.getD k []).length).map fun y => (M1.getD k []).getD y 0 * invZ ((M1.getD k []).getD col 0) p % p).getD x 0 = (M1.getD k []).getD x 0 * invZ ((M1.getD k []).getD col 0) p % p := by
            simp [List.getD, hx']
          rw [e, z, Int.zero_mul, Int.zero_emod]
        · exact range_far hx
      · exact z1 i h1 (by omega)
    have l2 : (scaleM p k col M1).length = n := by unfold scaleM; rw [List.length_set, l1]
    generalize scaleM p k col M1 = M2 at *
    intro i h1 h2
    rw [clear_len] at h2
    rw [clear_at h2]
    split
    · exact z2 i h1 h2
    · have a1 := z2 i h1 h2
      have a2 := z2 k (by omega) (by omega)
      unfold elimRow
      split
      · exact a1
      · by_cases hx : x < (M2.getD i []).length
        · have hx' : x < (M2[i]?.getD []).length := by simpa [List.getD] using hx
          have e : ((List.range (M2.getD i []).length).map fun y => ((M2.getD i []).getD y 0 + (p - (M2.getD i []).getD col 0) * (M2.getD k []).getD y 0) % p).getD x 0 = ((M2.getD i []).getD x 0 + (p - (M2.getD i []).getD col 0) * (M2.getD k []).getD x 0) % p := by
            simp [List.getD, hx']
          rw [e, a1, a2, Int.mul_zero, Int.add_zero, Int.zero_emod]
        · exact range_far hx
theorem Zer.reduce {p : Int} {n c x r : Nat} (hp : 2 ≤ p) : ∀ (k col : Nat) (S : Ech), EOk p n c S → Zer x r S.M → r ≤ S.L.length → Zer x r (reduceE p k col S).M
  | 0, _, _, _, h, _ => h
  | k + 1, col, S, hok, h, hr => by
    obtain ⟨h1, h2⟩ := h.step (p := p) (col := col) hok hr
    exact Zer.reduce hp k (col + 1) _ (hok.step hp) h1 h2
theorem findR_none {M : List (List Int)} {col : Nat} : ∀ f r, findR M col f r = r + f → ∀ i, r ≤ i → i < r + f → (M.getD i []).getD col 0 = 0
  | 0, r, _, i, h1, h2 => by omega
  | f + 1, r, h, i, h1, h2 => by
    by_cases h0 : (M.getD r []).getD col 0 = 0
    · rw [findR_go h0] at h
      by_cases hi : i = r
      · subst hi; exact h0
      · exact findR_none f (r + 1) (by omega) i (by omega) (by omega)
    · rw [findR_at h0] at h
      omega
theorem reduce_pre {p : Int} : ∀ (k col : Nat) (S : Ech), ∃ T, (reduceE p k col S).L = S.L ++ T ∧ ∀ x ∈ T, (col : Int) ≤ x
  | 0, _, S => ⟨[], by simp [reduceE], fun _ h => by cases h⟩
  | k + 1, col, S => by
    obtain ⟨T, h1, h2⟩ := reduce_pre (p := p) k (col + 1) (stepE p col S)
    have h3 : (stepE p col S).L = S.L ∨ (stepE p col S).L = S.L ++ [(col : Int)] := by
      unfold stepE
      simp only
      split
      · exact Or.inl rfl
      · exact Or.inr rfl
    rcases h3 with h3 | h3
    · exact ⟨T, by show (reduceE p k (col + 1) (stepE p col S)).L = _; rw [h1, h3], fun x hx => by have := h2 x hx; omega⟩
    · refine ⟨(col : Int) :: T, by show (reduceE p k (col + 1) (stepE p col S)).L = _; rw [h1, h3, List.append_assoc]; rfl, fun x hx => ?_⟩
      rcases List.mem_cons.1 hx with rfl | hx
      · exact Int.le_refl _
      · have := h2 x hx; omega
/-- the rows of the later pivots are zero in the first free column -/
theorem free_zero {p : Int} {n c R : Nat} {N : List (List Int)} {S : Ech} (hp : 2 ≤ p) (hok : EOk p n c ⟨N, [], 1⟩) (hS : reduceE p c 0 ⟨N, [], 1⟩ = S) (hR : freeL S.L S.L.length 0 = R) (hRc : R < c) : Zer R R S.M := by
  have hRl := free_le hS hR
  have hsp := freeL_spec S.L S.L.length 0
  rw [hR] at hsp
  obtain ⟨A, hA⟩ : ∃ A, reduceE p R 0 ⟨N, [], 1⟩ = A := ⟨_, rfl⟩
  have hAo : EOk p n c A := by rw [← hA]; exact hok.reduce hp R 0 _
  have hAa : Asc R A.L := by
    have := Asc.reduce (p := p) R 0 ⟨N, [], 1⟩ (Asc.nil 0)
    rw [hA, Nat.zero_add] at this
    exact this
  have e1 : S = reduceE p (c - R) R A := by
    have := reduce_add (p := p) R (c - R) 0 ⟨N, [], 1⟩
    rw [show R + (c - R) = c by omega, hS, hA, Nat.zero_add] at this
    exact this
  obtain ⟨T, t1, t2⟩ := reduce_pre (p := p) (c - R) R A
  rw [← e1] at t1
  have hAl : A.L.length = R := by
    have := hAa.len
    rcases Nat.lt_or_ge A.L.length R with h | h
    · exfalso
      have h1 := hsp A.L.length (Nat.zero_le _) h
      have h2 : A.L.length < S.L.length := by omega
      have h3 : S.L.getD A.L.length 0 ∈ T := by
        have h4 : S.L.length = A.L.length + T.length := by rw [t1, List.length_append]
        rw [t1]
        have h5 : 0 < T.length := by omega
        simp [List.getD, h5]
      have := t2 _ h3
      omega
    · omega
  obtain ⟨A2, hA2⟩ : ∃ A2, stepE p R A = A2 := ⟨_, rfl⟩
  have e2 : S = reduceE p (c - R - 1) (R + 1) A2 := by
    rw [e1, show c - R = (c - R - 1) + 1 by omega, ← hA2]
    rfl
  obtain ⟨F, hF⟩ : ∃ F, findR A.M R (A.M.length - A.L.length) A.L.length = F := ⟨_, rfl⟩
  by_cases hn : F = A.M.length
  · have e3 : A2 = A := by rw [← hA2]; exact step_none (hF.trans hn)
    have hz : Zer R R A.M := by
      intro i h1 h2
      refine findR_none (A.M.length - A.L.length) A.L.length ?_ i (by omega) (by omega)
      rw [hF, hn]
      omega
    rw [e2, e3]
    exact hz.reduce hp _ _ _ hAo (by omega)
  · exfalso
    have e3 : A2.L = A.L ++ [(R : Int)] := by rw [← hA2, step_some hF hn]
    obtain ⟨T2, u1, _⟩ := reduce_pre (p := p) (c - R - 1) (R + 1) A2
    rw [← e2, e3] at u1
    have h1 : S.L.getD R 0 = (R : Int) := by
      rw [u1, List.append_assoc, ← hAl]
      simp [List.getD]
    have h2 : R < S.L.length := by rw [u1]; simp; omega
    exact freeL_stop S.L S.L.length 0 R hR (by omega) h1
end Go.Proofs.YthicfkeiggcjjaaGreatDoor
