import Derived.Test.YthicfkeiggcjjaaGreatDoorEcDlU33
import Derived.Deep.CutRange
import Derived.StillTailTactics
namespace Go.Proofs.YthicfkeiggcjjaaGreatDoor
open Go Go.RowKit

/-- the columns of the pivots are unit vectors -/
def Red (S : Ech) : Prop := ∀ k i, k < S.L.length → i < S.M.length → (S.M.getD i []).getD (S.L.getD k 0).toNat 0 = if i = k then 1 else 0
theorem Red.step {p : Int} {n c col : Nat} {S : Ech} (hpr : noDiv p.toNat 2) (hp : 2 ≤ p) (hok : EOk p n c S) (hcol : col < c) (hasc : Asc col S.L) (h : Red S) : Red (stepE p col S) := by
  obtain ⟨R, hR⟩ : ∃ R, findR S.M col (S.M.length - S.L.length) S.L.length = R := ⟨_, rfl⟩
  by_cases hn : R = S.M.length
  · rwa [step_none (hR.trans hn)]
  · rw [step_some hR hn]
    have hb := find_lt hok hR
    have hl := hok.len
    have hne := findR_ne S.M col (S.M.length - S.L.length) S.L.length (by rw [hR]; omega)
    rw [hR] at hne
    obtain ⟨k, hk⟩ : ∃ k, S.L.length = k := ⟨_, rfl⟩
    rw [hk] at hb ⊢
    obtain ⟨a1, a2, a3⟩ := EOk.swap hok.len hok.row hok.res (show k < n by omega) (show R < n by omega)
    have hv : ((swapL S.M k R []).getD k []).getD col 0 = (S.M.getD R []).getD col 0 := by
      rw [swap_get [] (by omega) (by omega), swI_at]
    have hvr := hok.res.at (i := R) (j := col) (by omega) (by rw [hok.row R (by omega)]; exact hcol)
    obtain ⟨v, hve⟩ : ∃ v, (S.M.getD R []).getD col 0 = v := ⟨_, rfl⟩
    rw [hve] at hne hv hvr
    have hold : ∀ k' i, k' < k → i < n → ((swapL S.M k R []).getD i []).getD (S.L.getD k' 0).toNat 0 = if i = k' then 1 else 0 := fun k' i hk' hi => by
      rw [swap_get [] (by omega) (by omega)]
      have hsw := swI_lt (i := k) (j := R) (k := i) (n := n) (by omega) (by omega) hi
      rw [h k' _ (by omega) (by omega)]
      by_cases hik : i = k'
      · subst hik
        have : swI k R i = i := by unfold swI; rw [if_neg (by omega), if_neg (by omega)]
        rw [this]
      · rw [if_neg hik]
        refine if_neg ?_
        unfold swI
        repeat' split
        all_goals omega
    generalize swapL S.M k R [] = M1 at *
    obtain ⟨b1, b2, b3⟩ := scale_ok (np := k) (col := col) hp a1 a2 a3 (show k < n by omega)
    have hsk : ∀ i, (scaleM p k col M1).getD i [] = if i = k then scaleRow p (invZ v p) (M1.getD k []) else M1.getD i [] := fun i => by
      rw [scale_at (by omega), hv]
    generalize scaleM p k col M1 = M2 at *
    have hrl : (M1.getD k []).length = c := a2 k (by omega)
    have hkcol : (M2.getD k []).getD col 0 = 1 := by
      rw [hsk k, if_pos rfl]
      unfold scaleRow
      rw [getD_range (by omega), hv]
      exact inv_mul hpr hp (by omega) hvr.2
    have hold2 : ∀ k' i, k' < k → i < n → (M2.getD i []).getD (S.L.getD k' 0).toNat 0 = if i = k' then 1 else 0 := fun k' i hk' hi => by
      rw [hsk i]
      have h1 := hasc.hi k' (by omega)
      have h0 := hasc.lo k' (by omega)
      by_cases hik : i = k
      · rw [if_pos hik, if_neg (by omega)]
        unfold scaleRow
        rw [getD_range (by omega), hold k' k hk' (by omega), if_neg (by omega), Int.zero_mul, Int.zero_emod]
      · rw [if_neg hik]; exact hold k' i hk' hi
    intro k' i hk' hi
    show ((clearM p k col M2).getD i []).getD ((S.L ++ [(col : Int)]).getD k' 0).toNat 0 = _
    have hk'2 : k' < k + 1 := by
      have : k' < (S.L ++ [(col : Int)]).length := hk'
      rw [List.length_append, hk] at this
      exact this
    have hi2 : i < n := by
      have : i < (clearM p k col M2).length := hi
      rw [clear_len, b1] at this
      exact this
    rw [clear_at (by omega)]
    have hel : ∀ x, x < c → ¬ (M2.getD i []).getD col 0 = 0 → (elimRow p col (M2.getD k []) (M2.getD i [])).getD x 0 = ((M2.getD i []).getD x 0 + (p - (M2.getD i []).getD col 0) * (M2.getD k []).getD x 0) % p := fun x hx h0 => by
      unfold elimRow
      rw [if_neg h0, getD_range (by rw [b2 i hi2]; exact hx)]
    by_cases hlast : k' < k
    · rw [getD_app (by omega)]
      have h1 := hasc.hi k' (by omega)
      have h0 := hasc.lo k' (by omega)
      by_cases hik : i = k
      · rw [if_pos hik]; exact hold2 k' i hlast hi2
      · rw [if_neg hik]
        by_cases hz : (M2.getD i []).getD col 0 = 0
        · unfold elimRow; rw [if_pos hz]; exact hold2 k' i hlast hi2
        · rw [hel _ (by omega) hz, hold2 k' i hlast hi2, hold2 k' k hlast (by omega), if_neg (show ¬ k = k' by omega), Int.mul_zero, Int.add_zero]
          split
          · exact Int.emod_eq_of_lt (by omega) (by omega)
          · exact Int.zero_emod _
    · have e : (S.L ++ [(col : Int)]).getD k' 0 = (col : Int) := by
        rw [show k' = S.L.length by omega]; exact getD_end
      rw [e, Int.toNat_natCast]
      have hkk : k' = k := by omega
      subst hkk
      by_cases hik : i = k'
      · rw [if_pos hik, if_pos hik, hik]; exact hkcol
      · rw [if_neg hik, if_neg hik]
        by_cases hz : (M2.getD i []).getD col 0 = 0
        · unfold elimRow; rw [if_pos hz]; exact hz
        · rw [hel _ hcol hz, hkcol, Int.mul_one]
          have e2 : (M2.getD i []).getD col 0 + (p - (M2.getD i []).getD col 0) = p := by omega
          rw [e2, Int.emod_self]
theorem Red.reduce {p : Int} {n c : Nat} (hpr : noDiv p.toNat 2) (hp : 2 ≤ p) : ∀ (k col : Nat) (S : Ech), EOk p n c S → col + k ≤ c → Asc col S.L → Red S → Red (reduceE p k col S)
  | 0, _, _, _, _, _, h => h
  | k + 1, col, S, hok, hc, ha, h => Red.reduce hpr hp k (col + 1) _ (hok.step hp) (by omega) (ha.step (p := p)) (h.step hpr hp hok (by omega) ha)
theorem Asc.all {n : Nat} {L : List Int} (h : Asc n L) (hl : L.length = n) {j : Nat} (hj : j < n) : L.getD j 0 = (j : Int) := by
  have h1 := h.ge (i := j) (by omega)
  have h2 := h.gap (i := j) (n - 1 - j) (by omega)
  have h3 := h.hi (j + (n - 1 - j)) (by omega)
  omega
/-- a row times a vector, reduced at each step -/
def prodS (p : Int) (l v : List Int) : Nat → Int
  | 0 => 0
  | k + 1 => (prodS p l v k + l.getD k 0 % p * (v.getD k 0 % p)) % p
theorem prodS_sum (p : Int) (l v : List Int) : ∀ k, prodS p l v k = sumN (fun j => l.getD j 0 % p * (v.getD j 0 % p)) k % p
  | 0 => by simp [prodS, sumN]
  | k + 1 => by
    simp only [prodS, sumN]
    rw [prodS_sum p l v k, Int.add_emod, Int.emod_emod, ← Int.add_emod]
theorem resRow_at {p : Int} {l : List Int} {j : Nat} : (resRow p l).getD j 0 = l.getD j 0 % p := by
  by_cases h : j < l.length
  · simp [resRow, List.getD, h]
  · simp [resRow, List.getD, h]
theorem emod_cong {p a b : Int} (h : p ∣ a - b) : a % p = b % p := Int.emod_eq_emod_iff_emod_sub_eq_zero.2 (Int.emod_eq_zero_of_dvd h)
end Go.Proofs.YthicfkeiggcjjaaGreatDoor

namespace Go.Proofs.YthicfkeiggcjjaaGreatDoor
open Go Go.RowKit

theorem sum_step {p s a b : Int} (hp : 2 ≤ p) (hp2 : p ≤ 2147483647) (h1 : 0 ≤ s) (h2 : s < p) (h3 : 0 ≤ a) (h4 : a < p) (h5 : 0 ≤ b) (h6 : b < p) :
    IntKind.i64.wrap (a * b) = a * b ∧ IntKind.i64.wrap (s + a * b) = s + a * b ∧ (s + a * b).tmod p = (s + a * b) % p ∧ 0 ≤ (s + a * b) % p ∧ (s + a * b) % p < p := by
  have a1 : 0 ≤ a * b := Int.mul_nonneg h3 h5
  have a2 : a * b ≤ 2147483647 * 2147483647 := Int.mul_le_mul (by omega) (by omega) h5 (by omega)
  exact ⟨IntWalk.i64_in _ (by omega), IntWalk.i64_in _ (by omega), Int.tmod_eq_emod_of_nonneg (by omega), Int.emod_nonneg _ (by omega), Int.emod_lt_of_pos _ (by omega)⟩

end Go.Proofs.YthicfkeiggcjjaaGreatDoor

namespace Go.Proofs.YthicfkeiggcjjaaGreatDoor
open Go Go.RowKit

def d3 (a b c d e f g h i : Int) : Int := a * (e * i - f * h) - b * (d * i - f * g) + c * (d * h - e * g)
def d4 (a : Nat → Nat → Int) : Int := a 0 0 * d3 (a 1 1) (a 1 2) (a 1 3) (a 2 1) (a 2 2) (a 2 3) (a 3 1) (a 3 2) (a 3 3) - a 0 1 * d3 (a 1 0) (a 1 2) (a 1 3) (a 2 0) (a 2 2) (a 2 3) (a 3 0) (a 3 2) (a 3 3) + a 0 2 * d3 (a 1 0) (a 1 1) (a 1 3) (a 2 0) (a 2 1) (a 2 3) (a 3 0) (a 3 1) (a 3 3) - a 0 3 * d3 (a 1 0) (a 1 1) (a 1 2) (a 2 0) (a 2 1) (a 2 2) (a 3 0) (a 3 1) (a 3 2)
def detF (n : Nat) (a : Nat → Nat → Int) : Int :=
  match n with
  | 0 => 1
  | 1 => a 0 0
  | 2 => a 0 0 * a 1 1 - a 0 1 * a 1 0
  | 3 => d3 (a 0 0) (a 0 1) (a 0 2) (a 1 0) (a 1 1) (a 1 2) (a 2 0) (a 2 1) (a 2 2)
  | _ => d4 a
/-- equal modulo p -/
def Cg (p a b : Int) : Prop := p ∣ a - b
theorem Cg.refl (p a : Int) : Cg p a a := ⟨0, by omega⟩
theorem Cg.of {p a b : Int} (h : a = b) : Cg p a b := by rw [h]; exact Cg.refl p b
theorem Cg.symm {p a b : Int} (h : Cg p a b) : Cg p b a := by obtain ⟨k, hk⟩ := h; exact ⟨-k, by rw [Int.mul_neg]; omega⟩
theorem Cg.trans {p a b c : Int} (h : Cg p a b) (h2 : Cg p b c) : Cg p a c := by
  have := Int.dvd_add h h2
  have e : a - b + (b - c) = a - c := by omega
  unfold Cg
  rwa [e] at this
theorem Cg.add {p a b c d : Int} (h : Cg p a b) (h2 : Cg p c d) : Cg p (a + c) (b + d) := by
  have := Int.dvd_add h h2
  have e : a - b + (c - d) = a + c - (b + d) := by omega
  unfold Cg
  rwa [e] at this
theorem Cg.sub {p a b c d : Int} (h : Cg p a b) (h2 : Cg p c d) : Cg p (a - c) (b - d) := by
  have := Int.dvd_sub h h2
  have e : a - b - (c - d) = a - c - (b - d) := by omega
  unfold Cg
  rwa [e] at this
theorem Cg.mul {p a b c d : Int} (h : Cg p a b) (h2 : Cg p c d) : Cg p (a * c) (b * d) := by
  have h3 := Int.dvd_trans h (Int.dvd_mul_right _ c)
  have h4 := Int.dvd_trans h2 (Int.dvd_mul_left b _)
  have := Int.dvd_add h3 h4
  have e : (a - b) * c + b * (c - d) = a * c - b * d := by rw [Int.sub_mul, Int.mul_sub]; omega
  unfold Cg
  rwa [e] at this
theorem Cg.mod (p a : Int) : Cg p (a % p) a := emod_dvd a p
theorem Cg.same {p a b : Int} (h : Cg p a b) : a % p = b % p := emod_cong h
theorem d3_cg {p a b c d e f g h i a' b' c' d' e' f' g' h' i' : Int} (ha : Cg p a a') (hb : Cg p b b') (hc : Cg p c c') (hd : Cg p d d') (he : Cg p e e') (hf : Cg p f f') (hg : Cg p g g') (hh : Cg p h h') (hi : Cg p i i') : Cg p (d3 a b c d e f g h i) (d3 a' b' c' d' e' f' g' h' i') :=
  ((ha.mul ((he.mul hi).sub (hf.mul hh))).sub (hb.mul ((hd.mul hi).sub (hf.mul hg)))).add (hc.mul ((hd.mul hh).sub (he.mul hg)))
theorem det_cg {p : Int} {n : Nat} {a b : Nat → Nat → Int} (hn : n ≤ 4) (h : ∀ i j, i < n → j < n → Cg p (a i j) (b i j)) : Cg p (detF n a) (detF n b) := by
  match n, hn with
  | 0, _ => exact Cg.refl _ _
  | 1, _ => exact h 0 0 (by decide) (by decide)
  | 2, _ => exact ((h 0 0 (by decide) (by decide)).mul (h 1 1 (by decide) (by decide))).sub ((h 0 1 (by decide) (by decide)).mul (h 1 0 (by decide) (by decide)))
  | 3, _ =>
    have k := fun i j (hi : i < 3) (hj : j < 3) => h i j hi hj
    exact d3_cg (k 0 0 (by decide) (by decide)) (k 0 1 (by decide) (by decide)) (k 0 2 (by decide) (by decide)) (k 1 0 (by decide) (by decide)) (k 1 1 (by decide) (by decide)) (k 1 2 (by decide) (by decide)) (k 2 0 (by decide) (by decide)) (k 2 1 (by decide) (by decide)) (k 2 2 (by decide) (by decide))
  | 4, _ =>
    have k := fun i j (hi : i < 4) (hj : j < 4) => h i j hi hj
    have k00 := k 0 0 (by decide) (by decide)
    have k01 := k 0 1 (by decide) (by decide)
    have k02 := k 0 2 (by decide) (by decide)
    have k03 := k 0 3 (by decide) (by decide)
    have k10 := k 1 0 (by decide) (by decide)
    have k11 := k 1 1 (by decide) (by decide)
    have k12 := k 1 2 (by decide) (by decide)
    have k13 := k 1 3 (by decide) (by decide)
    have k20 := k 2 0 (by decide) (by decide)
    have k21 := k 2 1 (by decide) (by decide)
    have k22 := k 2 2 (by decide) (by decide)
    have k23 := k 2 3 (by decide) (by decide)
    have k30 := k 3 0 (by decide) (by decide)
    have k31 := k 3 1 (by decide) (by decide)
    have k32 := k 3 2 (by decide) (by decide)
    have k33 := k 3 3 (by decide) (by decide)
    exact (((k00.mul (d3_cg k11 k12 k13 k21 k22 k23 k31 k32 k33)).sub (k01.mul (d3_cg k10 k12 k13 k20 k22 k23 k30 k32 k33))).add (k02.mul (d3_cg k10 k11 k13 k20 k21 k23 k30 k31 k33))).sub (k03.mul (d3_cg k10 k11 k12 k20 k21 k22 k30 k31 k32))
theorem det_eq {n : Nat} {a b : Nat → Nat → Int} (hn : n ≤ 4) (h : ∀ i j, i < n → j < n → a i j = b i j) : detF n a = detF n b := by
  have := det_cg (p := 0) hn (fun i j hi hj => Cg.of (h i j hi hj))
  obtain ⟨k, hk⟩ := this
  omega
theorem det_swap {n k r : Nat} (hn : n ≤ 4) (hk : k < n) (hr : r < n) (hkr : k < r) (a : Nat → Nat → Int) : detF n (fun i j => a (swI k r i) j) = -detF n a := by
  have h1 : k = 0 ∨ k = 1 ∨ k = 2 := by omega
  have h2 : r = 1 ∨ r = 2 ∨ r = 3 := by omega
  have h3 : n = 0 ∨ n = 1 ∨ n = 2 ∨ n = 3 ∨ n = 4 := by omega
  rcases h1 with rfl | rfl | rfl <;> rcases h2 with rfl | rfl | rfl <;> rcases h3 with rfl | rfl | rfl | rfl | rfl <;> first | omega | (simp [detF, d4, d3, swI]; grind) | (simp [detF, d4, d3, swI])
theorem det_scale {n k : Nat} (hn : n ≤ 4) (hk : k < n) (s : Int) (a : Nat → Nat → Int) : detF n (fun i j => if i = k then s * a i j else a i j) = s * detF n a := by
  have h1 : k = 0 ∨ k = 1 ∨ k = 2 ∨ k = 3 := by omega
  have h3 : n = 0 ∨ n = 1 ∨ n = 2 ∨ n = 3 ∨ n = 4 := by omega
  rcases h1 with rfl | rfl | rfl | rfl <;> rcases h3 with rfl | rfl | rfl | rfl | rfl <;> first | omega | (simp [detF, d4, d3]; grind) | (simp [detF])
theorem det_clear {n k : Nat} (hn : n ≤ 4) (hk : k < n) (c : Nat → Int) (a : Nat → Nat → Int) : detF n (fun i j => if i = k then a i j else a i j + c i * a k j) = detF n a := by
  have h1 : k = 0 ∨ k = 1 ∨ k = 2 ∨ k = 3 := by omega
  have h3 : n = 0 ∨ n = 1 ∨ n = 2 ∨ n = 3 ∨ n = 4 := by omega
  rcases h1 with rfl | rfl | rfl | rfl <;> rcases h3 with rfl | rfl | rfl | rfl | rfl <;> first | omega | (simp [detF, d4, d3]; grind) | (simp [detF])
theorem det_zero {n k : Nat} (hn : n ≤ 4) (hk : k < n) {a : Nat → Nat → Int} (h : ∀ j, j < n → a k j = 0) : detF n a = 0 := by
  have e : detF n a = detF n (fun i j => if i = k then 0 * a i j else a i j) := det_eq hn fun i j _ hj => by
    by_cases hi : i = k
    · subst hi; rw [if_pos rfl, h j hj]; simp
    · rw [if_neg hi]
  rw [e, det_scale hn hk, Int.zero_mul]
theorem det_one {n : Nat} (hn : n ≤ 4) : detF n (fun i j => if i = j then 1 else 0) = 1 := by
  have h3 : n = 0 ∨ n = 1 ∨ n = 2 ∨ n = 3 ∨ n = 4 := by omega
  rcases h3 with rfl | rfl | rfl | rfl | rfl <;> simp [detF, d4, d3]
end Go.Proofs.YthicfkeiggcjjaaGreatDoor
