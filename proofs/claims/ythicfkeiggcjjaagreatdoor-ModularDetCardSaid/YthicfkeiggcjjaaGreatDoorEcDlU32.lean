import Derived.Test.YthicfkeiggcjjaaGreatDoorEcDlU26
import Derived.Test.YthicfkeiggcjjaaGreatDoorEcDlU17
import Derived.Test.YthicfkeiggcjjaaGreatDoorEcDlU27
namespace Go.Proofs.YthicfkeiggcjjaaGreatDoor
open Go Go.RowKit

theorem elim_same (p a f b : Int) : (a - f * b % p) % p = (a + (p - f) * b) % p := by
  have h1 : (a - f * b % p) % p = (a - f * b) % p := by
    rw [Int.sub_emod, Int.emod_emod, ← Int.sub_emod]
  have h2 : a + (p - f) * b = (a - f * b) + p * b := by
    rw [Int.sub_mul]; omega
  rw [h1, h2, Int.add_mul_emod_self_left]
/-- one row of the reference less a multiple of the pivot's -/
def elimRowR (p : Int) (col : Nat) (piv row : List Int) : List Int := (List.range row.length).map fun x => (row.getD x 0 - row.getD col 0 * piv.getD x 0 % p) % p
theorem elimR_same {p : Int} {col : Nat} {piv row : List Int} (hr : ∀ x, x < row.length → 0 ≤ row.getD x 0 ∧ row.getD x 0 < p) : elimRowR p col piv row = elimRow p col piv row := by
  unfold elimRowR elimRow
  by_cases h : row.getD col 0 = 0
  · rw [if_pos h]
    refine list_same 0 (by simp) fun x hx => ?_
    have hx' : x < row.length := by simpa using hx
    have e : ((List.range row.length).map fun x => (row.getD x 0 - row.getD col 0 * piv.getD x 0 % p) % p).getD x 0 = (row.getD x 0 - row.getD col 0 * piv.getD x 0 % p) % p := by
      simp [List.getD, hx']
    rw [e, h, Int.zero_mul, Int.zero_emod, Int.sub_zero]
    exact Int.emod_eq_of_lt (hr x hx').1 (hr x hx').2
  · rw [if_neg h]
    refine List.map_congr_left fun x _ => ?_
    exact elim_same p _ _ _
def clearR (p : Int) (top col : Nat) (M : List (List Int)) : List (List Int) := (List.range M.length).map fun i => if i = top then M.getD i [] else elimRowR p col (M.getD top []) (M.getD i [])
theorem clearR_same {p : Int} {top col : Nat} {M : List (List Int)} (h : Res p M) : clearR p top col M = clearM p top col M := by
  unfold clearR clearM
  refine List.map_congr_left fun i hi => ?_
  have hi' : i < M.length := by simpa using hi
  by_cases ht : i = top
  · rw [if_pos ht, if_pos ht]
  · rw [if_neg ht, if_neg ht, elimR_same fun x hx => h.at hi' hx]
/-- the reference's step: a determinant of 0 once a column has no pivot -/
def stepR (p : Int) (col : Nat) (S : Ech) : Ech :=
  let R := findR S.M col (S.M.length - S.L.length) S.L.length
  if R = S.M.length then ⟨S.M, S.L, 0⟩
  else ⟨clearR p S.L.length col (scaleM p S.L.length col (swapL S.M S.L.length R [])), S.L ++ [(col : Int)], (if R = S.L.length then S.f else -S.f % p) * ((swapL S.M S.L.length R []).getD S.L.length []).getD col 0 % p⟩
def reduceR (p : Int) : Nat → Nat → Ech → Ech
  | 0, _, S => S
  | k + 1, col, S => reduceR p k (col + 1) (stepR p col S)
/-- the reference's state beside the program's -/
structure Beside (col : Nat) (S T : Ech) : Prop where
  M : T.M = S.M
  L : T.L = S.L
  le : S.L.length ≤ col
  f : T.f = if S.L.length = col then S.f else 0
theorem findR_bounds (M : List (List Int)) (col : Nat) : ∀ f r, r ≤ findR M col f r ∧ findR M col f r ≤ r + f
  | 0, r => ⟨Nat.le_refl _, Nat.le_refl _⟩
  | f + 1, r => by
    unfold findR
    split
    · have := findR_bounds M col f (r + 1); omega
    · omega
theorem Beside.step {p : Int} {n c col : Nat} {S T : Ech} (hp : 2 ≤ p) (h : Beside col S T) (hok : EOk p n c S) : Beside (col + 1) (stepE p col S) (stepR p col T) := by
  obtain ⟨TM, TL, Tf⟩ := T
  obtain ⟨h1, h2, h3, h4⟩ := h
  simp only at h1 h2 h4
  subst h1 h2
  unfold stepE stepR
  simp only
  obtain ⟨R, hR⟩ : ∃ R, findR S.M col (S.M.length - S.L.length) S.L.length = R := ⟨_, rfl⟩
  rw [hR]
  by_cases hn : R = S.M.length
  · rw [if_pos hn, if_pos hn]
    exact ⟨rfl, rfl, by omega, by rw [if_neg (by omega)]⟩
  · rw [if_neg hn, if_neg hn]
    have hb := findR_bounds S.M col (S.M.length - S.L.length) S.L.length
    rw [hR] at hb
    have hl := hok.len
    have hpl := hok.pl
    have hnp : S.L.length < n := by omega
    obtain ⟨a1, a2, a3⟩ := EOk.swap hok.len hok.row hok.res hnp (show R < n by omega)
    have b3 : Res p (scaleM p S.L.length col (swapL S.M S.L.length R [])) := by
      generalize swapL S.M S.L.length R [] = M1 at *
      refine res_get fun i hi x hx => ?_
      have hi' : i < n := by unfold scaleM at hi; rw [List.length_set, a1] at hi; exact hi
      rw [scale_at (by omega)] at hx ⊢
      split at hx
      · rename_i he
        rw [if_pos he]
        have hx' : x < (M1[S.L.length]?.getD []).length := by simpa [scaleRow, List.getD] using hx
        have e : (scaleRow p (invZ ((M1.getD S.L.length []).getD col 0) p) (M1.getD S.L.length [])).getD x 0 = (M1.getD S.L.length []).getD x 0 * invZ ((M1.getD S.L.length []).getD col 0) p % p := by
          simp [scaleRow, List.getD, hx']
        rw [e]
        exact ⟨Int.emod_nonneg _ (by omega), Int.emod_lt_of_pos _ (by omega)⟩
      · rename_i he
        rw [if_neg he]
        exact a3.at (by omega) hx
    refine ⟨clearR_same b3, rfl, by simp only [List.length_append, List.length_singleton]; omega, ?_⟩
    simp only [List.length_append, List.length_singleton]
    by_cases hc : S.L.length = col
    · rw [if_pos hc] at h4
      rw [if_pos (show S.L.length + 1 = col + 1 by omega), h4]
    · rw [if_neg hc] at h4
      rw [if_neg (show ¬ S.L.length + 1 = col + 1 by omega), h4]
      split <;> simp
theorem Beside.reduce {p : Int} {n c : Nat} (hp : 2 ≤ p) : ∀ (k col : Nat) (S T : Ech), Beside col S T → EOk p n c S → Beside (col + k) (reduceE p k col S) (reduceR p k col T)
  | 0, _, _, _, h, _ => h
  | k + 1, col, S, T, h, hok => by
    have := Beside.reduce hp k (col + 1) _ _ (h.step (c := c) hp hok) (hok.step hp)
    rw [show col + (k + 1) = col + 1 + k by omega]
    exact this
theorem findR_ne (M : List (List Int)) (col : Nat) : ∀ f r, findR M col f r < r + f → ¬ (M.getD (findR M col f r) []).getD col 0 = 0
  | 0, r, h => by unfold findR at h; omega
  | f + 1, r, h => by
    by_cases h0 : (M.getD r []).getD col 0 = 0
    · rw [findR_go h0] at h ⊢
      exact findR_ne M col f (r + 1) (by omega)
    · rw [findR_at h0]
      exact h0
theorem swI_at (i j : Nat) : swI i j i = j := by
  unfold swI
  by_cases h : i = j
  · rw [if_pos h]; exact h
  · rw [if_neg h, if_pos rfl]
/-- modulo a prime the factor stays a residue that is not zero -/
theorem step_pos {p : Int} {n c col : Nat} {S : Ech} (hprime : noDiv p.toNat 2) (hp : 2 ≤ p) (hok : EOk p n c S) (hcol : col < c) (hf : 0 < S.f) : 0 < (stepE p col S).f := by
  unfold stepE
  simp only
  obtain ⟨R, hR⟩ : ∃ R, findR S.M col (S.M.length - S.L.length) S.L.length = R := ⟨_, rfl⟩
  rw [hR]
  by_cases hn : R = S.M.length
  · rw [if_pos hn]; exact hf
  · rw [if_neg hn]
    have hb := findR_bounds S.M col (S.M.length - S.L.length) S.L.length
    rw [hR] at hb
    have hl := hok.len
    have hpl := hok.pl
    have hne := findR_ne S.M col (S.M.length - S.L.length) S.L.length (by rw [hR]; omega)
    rw [hR] at hne
    have hv : ((swapL S.M S.L.length R []).getD S.L.length []).getD col 0 = (S.M.getD R []).getD col 0 := by
      rw [swap_get [] (by omega) (by omega), swI_at]
    rw [hv]
    have hr := hok.res.at (i := R) (j := col) (by omega) (by rw [hok.row R (by omega)]; exact hcol)
    have h1 : 0 < (if R = S.L.length then S.f else -S.f % p) ∧ (if R = S.L.length then S.f else -S.f % p) < p := by
      split
      · exact ⟨hf, hok.f.2⟩
      · exact neg_ne hp hf hok.f.2
    exact prod_neZ hprime hp h1.1 h1.2 (by omega) hr.2
theorem reduce_pos {p : Int} {n c : Nat} (hprime : noDiv p.toNat 2) (hp : 2 ≤ p) : ∀ (k col : Nat) (S : Ech), EOk p n c S → col + k ≤ c → 0 < S.f → 0 < (reduceE p k col S).f
  | 0, _, _, _, _, h => h
  | k + 1, col, S, hok, hc, h => reduce_pos hprime hp k (col + 1) _ (hok.step hp) (by omega) (step_pos hprime hp hok (by omega) h)
end Go.Proofs.YthicfkeiggcjjaaGreatDoor

namespace Go.Proofs.YthicfkeiggcjjaaGreatDoor
open Go Go.RowKit

theorem stepR_none {p : Int} {col : Nat} {S : Ech} (h : findR S.M col (S.M.length - S.L.length) S.L.length = S.M.length) : stepR p col S = ⟨S.M, S.L, 0⟩ := by
  unfold stepR; simp only; rw [if_pos h]
theorem stepR_some {p : Int} {col R : Nat} {S : Ech} (hR : findR S.M col (S.M.length - S.L.length) S.L.length = R) (h : ¬ R = S.M.length) : stepR p col S = ⟨clearR p S.L.length col (scaleM p S.L.length col (swapL S.M S.L.length R [])), S.L ++ [(col : Int)], (if R = S.L.length then S.f else -S.f % p) * ((swapL S.M S.L.length R []).getD S.L.length []).getD col 0 % p⟩ := by
  unfold stepR; simp only; rw [hR, if_neg h]
theorem find_lt {p : Int} {n c col R : Nat} {S : Ech} (hok : EOk p n c S) (hR : findR S.M col (S.M.length - S.L.length) S.L.length = R) : S.L.length ≤ R ∧ R ≤ n := by
  have hb := findR_bounds S.M col (S.M.length - S.L.length) S.L.length
  rw [hR] at hb
  have := hok.len
  have := hok.pl
  omega
theorem stepR_E {p : Int} {n c col R : Nat} {S : Ech} (hp : 2 ≤ p) (hok : EOk p n c S) (hR : findR S.M col (S.M.length - S.L.length) S.L.length = R) (h : ¬ R = S.M.length) : stepR p col S = stepE p col S := by
  rw [stepR_some hR h, step_some hR h]
  have hl := hok.len
  have hb := find_lt hok hR
  obtain ⟨a1, a2, a3⟩ := EOk.swap hok.len hok.row hok.res (show S.L.length < n by omega) (show R < n by omega)
  obtain ⟨b1, b2, b3⟩ := scale_ok (np := S.L.length) (col := col) hp a1 a2 a3 (show S.L.length < n by omega)
  rw [clearR_same b3]
theorem EOk.stepR {p : Int} {n c col : Nat} {S : Ech} (hp : 2 ≤ p) (h : EOk p n c S) : EOk p n c (stepR p col S) := by
  obtain ⟨R, hR⟩ : ∃ R, findR S.M col (S.M.length - S.L.length) S.L.length = R := ⟨_, rfl⟩
  by_cases hn : R = S.M.length
  · rw [stepR_none (hR.trans hn)]
    exact ⟨h.len, h.row, h.res, h.pl, by simp only; omega⟩
  · rw [stepR_E hp h hR hn]
    exact h.step hp
theorem EOk.reduceR {p : Int} {n c : Nat} (hp : 2 ≤ p) : ∀ k col (S : Ech), EOk p n c S → EOk p n c (reduceR p k col S)
  | 0, _, _, h => h
  | k + 1, col, _, h => EOk.reduceR hp k (col + 1) _ (h.stepR hp)
/-- where the rows lie -/
structure RBk (B N n : Nat) (rs : List (Nat × Nat)) : Prop where
  len : rs.length = n
  lo : ∀ i, i < n → B ≤ (rs.getD i (0, 0)).1
  hi : ∀ i, i < n → (rs.getD i (0, 0)).1 < N
theorem RBk.swap {B N n : Nat} {rs : List (Nat × Nat)} (h : RBk B N n rs) {i j : Nat} (hi : i < n) (hj : j < n) : RBk B N n (swapL rs i j (0, 0)) := by
  have hl := h.len
  refine ⟨by rw [swap_len, hl], fun k hk => ?_, fun k hk => ?_⟩
  · rw [swap_get (0, 0) (by omega) (by omega)]; exact h.lo _ (swI_lt hi hj hk)
  · rw [swap_get (0, 0) (by omega) (by omega)]; exact h.hi _ (swI_lt hi hj hk)
end Go.Proofs.YthicfkeiggcjjaaGreatDoor
