import Derived.Test.YthicfkeiggcjjaaGreatDoorEcSlU32
namespace Go.Proofs.YthicfkeiggcjjaaGreatDoor
open Go Go.RowKit

/-- the columns of the pivots are unit vectors -/
def Red (S : Ech) : Prop := ∀ k i, k < S.L.length → i < S.M.length → (S.M.getD i []).getD (S.L.getD k 0).toNat 0 = if i = k then 1 else 0
theorem Red.step {p : Int} {n c col : Nat} {S : Ech} (hpr : noDiv p.toNat 2) (hp : 2 ≤ p) (hok : EOk p n c S) (hcol : col < c) (hasc : Asc col S.L) (h : Red S) : Red (stepE p col S) := by
  obtain ⟨R, hR⟩ : ∃ R, findR S.M col (S.M.length - S.L.length) S.L.length = R := ⟨_, rfl⟩
  by_cases hn : R = S.M.length
  · rwa [step_none (hR.trans hn)]
  · rw [step_some hR hn]
    have hb := find_lt hok hR
    have hl := hok.len
    have hne := findR_ne S.M col (S.M.length - S.L.length) S.L.length (by rw [hR]; omega)
    rw [hR] at hne
    obtain ⟨k, hk⟩ : ∃ k, S.L.length = k := ⟨_, rfl⟩
    rw [hk] at hb ⊢
    obtain ⟨a1, a2, a3⟩ := EOk.swap hok.len hok.row hok.res (show k < n by omega) (show R < n by omega)
    have hv : ((swapL S.M k R []).getD k []).getD col 0 = (S.M.getD R []).getD col 0 := by
      rw [swap_get [] (by omega) (by omega), swI_at]
    have hvr := hok.res.at (i := R) (j := col) (by omega) (by rw [hok.row R (by omega)]; exact hcol)
    obtain ⟨v, hve⟩ : ∃ v, (S.M.getD R []).getD col 0 = v := ⟨_, rfl⟩
    rw [hve] at hne hv hvr
    have hold : ∀ k' i, k' < k → i < n → ((swapL S.M k R []).getD i []).getD (S.L.getD k' 0).toNat 0 = if i = k' then 1 else 0 := fun k' i hk' hi => by
      rw [swap_get [] (by omega) (by omega)]
      have hsw := swI_lt (i := k) (j := R) (k := i) (n := n) (by omega) (by omega) hi
      rw [h k' _ (by omega) (by omega)]
      by_cases hik : i = k'
      · subst hik
        have : swI k R i = i := by unfold swI; rw [if_neg (by omega), if_neg (by omega)]
        rw [this]
      · rw [if_neg hik]
        refine if_neg ?_
        unfold swI
        repeat' split
        all_goals omega
    generalize swapL S.M k R [] = M1 at *
    obtain ⟨b1, b2, b3⟩ := scale_ok (np := k) (col := col) hp a1 a2 a3 (show k < n by omega)
    have hsk : ∀ i, (scaleM p k col M1).getD i [] = if i = k then scaleRow p (invZ v p) (M1.getD k []) else M1.getD i [] := fun i => by
      rw [scale_at (by omega), hv]
    generalize scaleM p k col M1 = M2 at *
    have hrl : (M1.getD k []).length = c := a2 k (by omega)
    have hkcol : (M2.getD k []).getD col 0 = 1 := by
      rw [hsk k, if_pos rfl]
      unfold scaleRow
      rw [getD_range (by omega), hv]
      exact inv_mul hpr hp (by omega) hvr.2
    have hold2 : ∀ k' i, k' < k → i < n → (M2.getD i []).getD (S.L.getD k' 0).toNat 0 = if i = k' then 1 else 0 := fun k' i hk' hi => by
      rw [hsk i]
      have h1 := hasc.hi k' (by omega)
      have h0 := hasc.lo k' (by omega)
      by_cases hik : i = k
      · rw [if_pos hik, if_neg (by omega)]
        unfold scaleRow
        rw [getD_range (by omega), hold k' k hk' (by omega), if_neg (by omega), Int.zero_mul, Int.zero_emod]
      · rw [if_neg hik]; exact hold k' i hk' hi
    intro k' i hk' hi
    show ((clearM p k col M2).getD i []).getD ((S.L ++ [(col : Int)]).getD k' 0).toNat 0 = _
    have hk'2 : k' < k + 1 := by
      have : k' < (S.L ++ [(col : Int)]).length := hk'
      rw [List.length_append, hk] at this
      exact this
    have hi2 : i < n := by
      have : i < (clearM p k col M2).length := hi
      rw [clear_len, b1] at this
      exact this
    rw [clear_at (by omega)]
    have hel : ∀ x, x < c → ¬ (M2.getD i []).getD col 0 = 0 → (elimRow p col (M2.getD k []) (M2.getD i [])).getD x 0 = ((M2.getD i []).getD x 0 + (p - (M2.getD i []).getD col 0) * (M2.getD k []).getD x 0) % p := fun x hx h0 => by
      unfold elimRow
      rw [if_neg h0, getD_range (by rw [b2 i hi2]; exact hx)]
    by_cases hlast : k' < k
    · rw [getD_app (by omega)]
      have h1 := hasc.hi k' (by omega)
      have h0 := hasc.lo k' (by omega)
      by_cases hik : i = k
      · rw [if_pos hik]; exact hold2 k' i hlast hi2
      · rw [if_neg hik]
        by_cases hz : (M2.getD i []).getD col 0 = 0
        · unfold elimRow; rw [if_pos hz]; exact hold2 k' i hlast hi2
        · rw [hel _ (by omega) hz, hold2 k' i hlast hi2, hold2 k' k hlast (by omega), if_neg (show ¬ k = k' by omega), Int.mul_zero, Int.add_zero]
          split
          · exact Int.emod_eq_of_lt (by omega) (by omega)
          · exact Int.zero_emod _
    · have e : (S.L ++ [(col : Int)]).getD k' 0 = (col : Int) := by
        rw [show k' = S.L.length by omega]; exact getD_end
      rw [e, Int.toNat_natCast]
      have hkk : k' = k := by omega
      subst hkk
      by_cases hik : i = k'
      · rw [if_pos hik, if_pos hik, hik]; exact hkcol
      · rw [if_neg hik, if_neg hik]
        by_cases hz : (M2.getD i []).getD col 0 = 0
        · unfold elimRow; rw [if_pos hz]; exact hz
        · rw [hel _ hcol hz, hkcol, Int.mul_one]
          have e2 : (M2.getD i []).getD col 0 + (p - (M2.getD i []).getD col 0) = p := by omega
          rw [e2, Int.emod_self]
theorem Red.reduce {p : Int} {n c : Nat} (hpr : noDiv p.toNat 2) (hp : 2 ≤ p) : ∀ (k col : Nat) (S : Ech), EOk p n c S → col + k ≤ c → Asc col S.L → Red S → Red (reduceE p k col S)
  | 0, _, _, _, _, _, h => h
  | k + 1, col, S, hok, hc, ha, h => Red.reduce hpr hp k (col + 1) _ (hok.step hp) (by omega) (ha.step (p := p)) (h.step hpr hp hok (by omega) ha)
theorem kerL_at {p : Int} {c R j : Nat} {S : Ech} (hRc : R < c) (hj : j < c) : (kerL p c S R).getD j 0 = if j < R then -((S.M.getD j []).getD R 0) % p else if j = R then 1 else 0 := by
  unfold kerL
  rw [if_neg (by omega), getD_range hj]
/-- the vector of the kernel is mapped to zero -/
theorem ker_sat {p : Int} {n c R : Nat} {N : List (List Int)} {S : Ech} (hpr : noDiv p.toNat 2) (hp : 2 ≤ p) (hok : EOk p n c ⟨N, [], 1⟩) (hS : reduceE p c 0 ⟨N, [], 1⟩ = S) (hR : freeL S.L S.L.length 0 = R) (hRc : R < c) : Sat p c N fun j => (kerL p c S R).getD j 0 := by
  refine Sat.reduce hpr hp c 0 ⟨N, [], 1⟩ hok (by omega) ?_
  have hred := Red.reduce hpr hp c 0 ⟨N, [], 1⟩ hok (by omega) (Asc.nil 0) (fun k i hk => absurd hk (Nat.not_lt_zero _))
  have hz := free_zero hp hok hS hR hRc
  have hRl := free_le hS hR
  have hsp := freeL_spec S.L S.L.length 0
  rw [hR] at hsp
  rw [hS] at hred ⊢
  intro i hi
  have hent : ∀ j, j < R → (S.M.getD i []).getD j 0 = if i = j then 1 else 0 := fun j hj => by
    have h1 := hred j i (by omega) hi
    rw [hsp j (Nat.zero_le _) hj, Int.toNat_natCast] at h1
    exact h1
  unfold dotN
  rcases Nat.lt_or_ge i R with h | h
  · rw [sumN_two (a := i) (b := R) c h hRc (fun j hj h1 h2 => ?_)]
    · show p ∣ (S.M.getD i []).getD i 0 * (kerL p c S R).getD i 0 + (S.M.getD i []).getD R 0 * (kerL p c S R).getD R 0
      rw [hent i h, if_pos rfl, kerL_at hRc (by omega), if_pos h, kerL_at hRc hRc, if_neg (by omega), if_pos rfl, Int.one_mul, Int.mul_one]
      have := emod_dvd (-((S.M.getD i []).getD R 0)) p
      have e : -((S.M.getD i []).getD R 0) % p - -((S.M.getD i []).getD R 0) = -((S.M.getD i []).getD R 0) % p + (S.M.getD i []).getD R 0 := by omega
      rwa [e] at this
    · show (S.M.getD i []).getD j 0 * (kerL p c S R).getD j 0 = 0
      rcases Nat.lt_or_ge j R with h3 | h3
      · rw [hent j h3, if_neg (fun e => h1 e.symm), Int.zero_mul]
      · rw [kerL_at hRc hj, if_neg (by omega), if_neg h2, Int.mul_zero]
  · rw [sumN_zero c (fun j hj => ?_)]
    · exact ⟨0, by simp⟩
    · show (S.M.getD i []).getD j 0 * (kerL p c S R).getD j 0 = 0
      rcases Nat.lt_trichotomy j R with h3 | h3 | h3
      · rw [hent j h3, if_neg (by omega), Int.zero_mul]
      · subst h3
        rw [hz i h hi, Int.zero_mul]
      · rw [kerL_at hRc hj, if_neg (by omega), if_neg (by omega), Int.mul_zero]
theorem Asc.all {n : Nat} {L : List Int} (h : Asc n L) (hl : L.length = n) {j : Nat} (hj : j < n) : L.getD j 0 = (j : Int) := by
  have h1 := h.ge (i := j) (by omega)
  have h2 := h.gap (i := j) (n - 1 - j) (by omega)
  have h3 := h.hi (j + (n - 1 - j)) (by omega)
  omega
/-- the solution, and -1 for the right-hand side -/
theorem sol_sat {p : Int} {n : Nat} {N : List (List Int)} {S : Ech} (hpr : noDiv p.toNat 2) (hp : 2 ≤ p) (hok : EOk p n (n + 1) ⟨N, [], 1⟩) (hS : reduceE p n 0 ⟨N, [], 1⟩ = S) (hL : S.L.length = n) : Sat p (n + 1) N fun j => if j < n then (solL n S).getD j 0 else -1 := by
  refine Sat.reduce hpr hp n 0 ⟨N, [], 1⟩ hok (by omega) ?_
  have hred := Red.reduce hpr hp n 0 ⟨N, [], 1⟩ hok (by omega) (Asc.nil 0) (fun k i hk => absurd hk (Nat.not_lt_zero _))
  have hasc : Asc n S.L := by
    have := Asc.reduce (p := p) n 0 ⟨N, [], 1⟩ (Asc.nil 0)
    rwa [hS, Nat.zero_add] at this
  have hos : EOk p n (n + 1) S := by rw [← hS]; exact hok.reduce hp n 0 _
  rw [hS] at hred ⊢
  intro i hi
  have hin : i < n := by rw [hos.len] at hi; exact hi
  have hent : ∀ j, j < n → (S.M.getD i []).getD j 0 = if i = j then 1 else 0 := fun j hj => by
    have h1 := hred j i (by omega) hi
    rw [hasc.all hL hj, Int.toNat_natCast] at h1
    exact h1
  unfold dotN
  rw [sumN_two (a := i) (b := n) (n + 1) hin (by omega) (fun j hj h1 h2 => ?_)]
  · show p ∣ (S.M.getD i []).getD i 0 * (if i < n then (solL n S).getD i 0 else -1) + (S.M.getD i []).getD n 0 * (if n < n then (solL n S).getD n 0 else -1)
    rw [hent i hin, if_pos rfl, if_pos hin, if_neg (Nat.lt_irrefl n)]
    have e : (solL n S).getD i 0 = (S.M.getD i []).getD n 0 := getD_range hin
    rw [e]
    exact ⟨0, by omega⟩
  · show (S.M.getD i []).getD j 0 * (if j < n then (solL n S).getD j 0 else -1) = 0
    rw [hent j (by omega), if_neg (fun e => h1 e.symm), Int.zero_mul]

/-- a row times a vector, reduced at each step -/
def prodS (p : Int) (l v : List Int) : Nat → Int
  | 0 => 0
  | k + 1 => (prodS p l v k + l.getD k 0 % p * (v.getD k 0 % p)) % p
theorem prodS_sum (p : Int) (l v : List Int) : ∀ k, prodS p l v k = sumN (fun j => l.getD j 0 % p * (v.getD j 0 % p)) k % p
  | 0 => by simp [prodS, sumN]
  | k + 1 => by
    simp only [prodS, sumN]
    rw [prodS_sum p l v k, Int.add_emod, Int.emod_emod, ← Int.add_emod]
theorem resRow_at {p : Int} {l : List Int} {j : Nat} : (resRow p l).getD j 0 = l.getD j 0 % p := by
  by_cases h : j < l.length
  · simp [resRow, List.getD, h]
  · simp [resRow, List.getD, h]
theorem emod_cong {p a b : Int} (h : p ∣ a - b) : a % p = b % p := Int.emod_eq_emod_iff_emod_sub_eq_zero.2 (Int.emod_eq_zero_of_dvd h)
theorem ker_prod {p : Int} {n c R i : Nat} {M : List (List Int)} {S : Ech} (hpr : noDiv p.toNat 2) (hp : 2 ≤ p) (hl : M.length = n) (hrow : ∀ i, i < n → (M.getD i []).length = c) (hS : reduceE p c 0 ⟨resM p M, [], 1⟩ = S) (hR : freeL S.L S.L.length 0 = R) (hRc : R < c) (hi : i < n) : prodS p (M.getD i []) (kerL p c S R) c = 0 := by
  have h := ker_sat hpr hp (res_ok hp hl hrow) hS hR hRc i (by unfold resM; rw [List.length_map, hl]; exact hi)
  unfold dotN at h
  rw [resM_get] at h
  rw [prodS_sum]
  have e : sumN (fun j => (resRow p (M.getD i [])).getD j 0 * (kerL p c S R).getD j 0) c % p = 0 := Int.emod_eq_zero_of_dvd h
  refine Eq.trans (emod_cong (sumN_dvd c fun j hj => ?_)) e
  rw [resRow_at, ← Int.mul_sub]
  exact Int.dvd_trans (emod_dvd _ _) (Int.dvd_mul_left _ _)
/-- the solution solves -/
theorem sol_prod {p : Int} {n i : Nat} {M : List (List Int)} {bs : List Int} {S : Ech} (hpr : noDiv p.toNat 2) (hp : 2 ≤ p) (hrow : ∀ i, i < n → (M.getD i []).length = n) (hS : reduceE p n 0 ⟨resM p (wideM n M bs), [], 1⟩ = S) (hL : S.L.length = n) (hi : i < n) : prodS p (M.getD i []) (solL n S) n = bs.getD i 0 % p := by
  have h := sol_sat hpr hp (res_ok hp (wide_len n M bs) (wide_row bs hrow)) hS hL i (by unfold resM; rw [List.length_map, wide_len]; exact hi)
  unfold dotN at h
  rw [resM_get, wide_get M bs hi] at h
  have hri := hrow i hi
  simp only [sumN] at h
  rw [if_neg (Nat.lt_irrefl n), resRow_at] at h
  have e1 : (M.getD i [] ++ [bs.getD i 0]).getD n 0 = bs.getD i 0 := by rw [← hri]; exact getD_end
  rw [e1] at h
  rw [prodS_sum]
  refine emod_cong ?_
  have h2 : p ∣ sumN (fun j => (M.getD i []).getD j 0 % p * ((solL n S).getD j 0 % p)) n - sumN (fun j => (resRow p (M.getD i [] ++ [bs.getD i 0])).getD j 0 * if j < n then (solL n S).getD j 0 else -1) n := by
    refine sumN_dvd n fun j hj => ?_
    rw [resRow_at, getD_app (by omega), if_pos hj, ← Int.mul_sub]
    exact Int.dvd_trans (emod_dvd _ _) (Int.dvd_mul_left _ _)
  have h3 := emod_dvd (bs.getD i 0) p
  have h4 := Int.dvd_add (Int.dvd_add h2 h) h3
  have e2 : sumN (fun j => (M.getD i []).getD j 0 % p * ((solL n S).getD j 0 % p)) n - sumN (fun j => (resRow p (M.getD i [] ++ [bs.getD i 0])).getD j 0 * if j < n then (solL n S).getD j 0 else -1) n + (sumN (fun j => (resRow p (M.getD i [] ++ [bs.getD i 0])).getD j 0 * if j < n then (solL n S).getD j 0 else -1) n + bs.getD i 0 % p * -1) + (bs.getD i 0 % p - bs.getD i 0) = sumN (fun j => (M.getD i []).getD j 0 % p * ((solL n S).getD j 0 % p)) n - bs.getD i 0 := by
    generalize sumN (fun j => (M.getD i []).getD j 0 % p * ((solL n S).getD j 0 % p)) n = A
    generalize sumN (fun j => (resRow p (M.getD i [] ++ [bs.getD i 0])).getD j 0 * if j < n then (solL n S).getD j 0 else -1) n = B
    generalize bs.getD i 0 % p = C
    omega
  rwa [e2] at h4
end Go.Proofs.YthicfkeiggcjjaaGreatDoor
