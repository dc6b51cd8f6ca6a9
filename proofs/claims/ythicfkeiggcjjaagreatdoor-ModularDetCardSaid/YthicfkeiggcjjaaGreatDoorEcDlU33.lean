import Derived.Test.YthicfkeiggcjjaaGreatDoorEcDlU32
import Derived.Test.YthicfkeiggcjjaaGreatDoorEcDlU30
import Derived.Test.YthicfkeiggcjjaaGreatDoorEcDlU31
namespace Go.Proofs.YthicfkeiggcjjaaGreatDoor
open Go Go.RowKit

/-- ascending columns below col -/
structure Asc (col : Nat) (L : List Int) : Prop where
  up : ∀ i j, i < j → j < L.length → L.getD i 0 < L.getD j 0
  lo : ∀ i, i < L.length → 0 ≤ L.getD i 0
  hi : ∀ i, i < L.length → L.getD i 0 < (col : Int)
theorem Asc.nil (col : Nat) : Asc col [] := ⟨fun _ _ _ h => absurd h (Nat.not_lt_zero _), fun _ h => absurd h (Nat.not_lt_zero _), fun _ h => absurd h (Nat.not_lt_zero _)⟩
theorem Asc.one {col : Nat} {L : List Int} (h : Asc col L) : Asc (col + 1) L := ⟨h.up, h.lo, fun i hi => by have := h.hi i hi; omega⟩
theorem Asc.more {col : Nat} {L : List Int} (h : Asc col L) : Asc (col + 1) (L ++ [(col : Int)]) := by
  have hl : (L ++ [(col : Int)]).length = L.length + 1 := by simp
  refine ⟨fun i j hij hj => ?_, fun i hi => ?_, fun i hi => ?_⟩
  · rw [hl] at hj
    rw [getD_app (by omega)]
    by_cases h1 : j < L.length
    · rw [getD_app h1]; exact h.up i j hij h1
    · obtain rfl : L.length = j := by omega
      rw [getD_end]; exact h.hi i hij
  · rw [hl] at hi
    by_cases h1 : i < L.length
    · rw [getD_app h1]; exact h.lo i h1
    · obtain rfl : L.length = i := by omega
      rw [getD_end]; omega
  · rw [hl] at hi
    by_cases h1 : i < L.length
    · rw [getD_app h1]; have := h.hi i h1; omega
    · obtain rfl : L.length = i := by omega
      rw [getD_end]; omega
theorem Asc.step {p : Int} {col : Nat} {S : Ech} (h : Asc col S.L) : Asc (col + 1) (stepE p col S).L := by
  unfold stepE
  simp only
  split
  · exact h.one
  · exact h.more
theorem Asc.reduce {p : Int} : ∀ (k col : Nat) (S : Ech), Asc col S.L → Asc (col + k) (reduceE p k col S).L
  | 0, _, _, h => h
  | k + 1, col, S, h => by
    have := Asc.reduce (p := p) k (col + 1) _ (h.step (p := p))
    rw [show col + (k + 1) = col + 1 + k by omega]
    exact this
theorem Asc.gap {col : Nat} {L : List Int} (h : Asc col L) {i : Nat} : ∀ d, i + d < L.length → L.getD i 0 + d ≤ L.getD (i + d) 0
  | 0, _ => by simp
  | d + 1, hd => by
    have h1 := Asc.gap h (i := i) d (by omega)
    have h2 := h.up (i + d) (i + (d + 1)) (by omega) hd
    omega
theorem Asc.ge {col : Nat} {L : List Int} (h : Asc col L) {i : Nat} (hi : i < L.length) : (i : Int) ≤ L.getD i 0 := by
  have := h.gap (i := 0) i (by omega)
  have := h.lo 0 (by omega)
  rw [Nat.zero_add] at *
  omega
theorem Asc.len {col : Nat} {L : List Int} (h : Asc col L) : L.length ≤ col := by
  rcases Nat.eq_zero_or_pos L.length with h0 | h0
  · omega
  · have := h.ge (i := L.length - 1) (by omega)
    have := h.hi (L.length - 1) (by omega)
    omega
theorem freeL_stop (L : List Int) : ∀ f i R, freeL L f i = R → R < i + f → L.getD R 0 ≠ (R : Int)
  | 0, i, R, h, h2 => by unfold freeL at h; omega
  | f + 1, i, R, h, h2 => by
    by_cases h0 : L.getD i 0 = (i : Int)
    · rw [freeL_go h0] at h
      exact freeL_stop L f (i + 1) R h (by omega)
    · rw [freeL_at h0] at h
      subst h
      exact h0
theorem Asc.beyond {col R k : Nat} {L : List Int} (h : Asc col L) (hR : freeL L L.length 0 = R) (hk : R ≤ k) (hl : k < L.length) : (R : Int) < L.getD k 0 := by
  have h1 := h.ge (i := R) (by omega)
  have h2 := freeL_stop L L.length 0 R hR (by omega)
  have h3 := h.gap (i := R) (k - R) (by omega)
  rw [show R + (k - R) = k by omega] at h3
  omega
theorem Asc.full {col R : Nat} {L : List Int} (h : Asc col L) (hR : freeL L L.length 0 = R) : L.length = col ↔ R = col := by
  have hle := h.len
  have h1 := freeL_le L L.length 0
  rw [hR] at h1
  constructor
  · intro hl
    rcases Nat.lt_or_ge R col with h2 | h2
    · exfalso
      have h3 := h.beyond hR (k := R) (Nat.le_refl _) (by omega)
      have h4 := h.gap (i := R) (L.length - 1 - R) (by omega)
      have h5 := h.hi (R + (L.length - 1 - R)) (by omega)
      omega
    · omega
  · intro h2; omega
theorem range_far {f : Nat → Int} {k x : Nat} (h : ¬ x < k) : ((List.range k).map f).getD x 0 = 0 := by simp [List.getD, h]
/-- the elements of the column in the rows from r on are zero -/
def Zer (x r : Nat) (M : List (List Int)) : Prop := ∀ i, r ≤ i → i < M.length → (M.getD i []).getD x 0 = 0
theorem Zer.step {p : Int} {n c col x r : Nat} {S : Ech} (hok : EOk p n c S) (h : Zer x r S.M) (hr : r ≤ S.L.length) : Zer x r (stepE p col S).M ∧ r ≤ (stepE p col S).L.length := by
  obtain ⟨R, hR⟩ : ∃ R, findR S.M col (S.M.length - S.L.length) S.L.length = R := ⟨_, rfl⟩
  by_cases hn : R = S.M.length
  · rw [step_none (hR.trans hn)]; exact ⟨h, hr⟩
  · rw [step_some hR hn]
    have hb := find_lt hok hR
    have hl := hok.len
    refine ⟨?_, by simp only [List.length_append]; omega⟩
    show Zer x r (clearM _ _ _ _)
    obtain ⟨k, hk⟩ : ∃ k, S.L.length = k := ⟨_, rfl⟩
    rw [hk] at hb hr ⊢
    have z1 : Zer x r (swapL S.M k R []) := by
      intro i h1 h2
      rw [swap_len] at h2
      rw [swap_get [] (by omega) (by omega)]
      refine h _ ?_ ?_
      · unfold swI; split <;> (try split) <;> omega
      · exact swI_lt (by omega) (by omega) h2
    have l1 : (swapL S.M k R []).length = n := by rw [swap_len, hl]
    generalize swapL S.M k R [] = M1 at *
    have z2 : Zer x r (scaleM p k col M1) := by
      intro i h1 h2
      have h2' : i < n := by unfold scaleM at h2; rw [List.length_set, l1] at h2; exact h2
      rw [scale_at (by omega)]
      split
      · have z := z1 k (by omega) (by omega)
        unfold scaleRow
        by_cases hx : x < (M1.getD k []).length
        · have hx' : x < (M1[k]?.getD []).length := by simpa [List.getD] using hx
          have e : ((List.range (M1.getD k []).length).map fun y => (M1.getD k []).getD y 0 * invZ ((M1.getD k []).getD col 0) p % p).getD x 0 = (M1.getD k []).getD x 0 * invZ ((M1.getD k []).getD col 0) p % p := by
            simp [List.getD, hx']
          rw [e, z, Int.zero_mul, Int.zero_emod]
        · exact range_far hx
      · exact z1 i h1 (by omega)
    have l2 : (scaleM p k col M1).length = n := by unfold scaleM; rw [List.length_set, l1]
    generalize scaleM p k col M1 = M2 at *
    intro i h1 h2
    rw [clear_len] at h2
    rw [clear_at h2]
    split
    · exact z2 i h1 h2
    · have a1 := z2 i h1 h2
      have a2 := z2 k (by omega) (by omega)
      unfold elimRow
      split
      · exact a1
      · by_cases hx : x < (M2.getD i []).length
        · have hx' : x < (M2[i]?.getD []).length := by simpa [List.getD] using hx
          have e : ((List.range (M2.getD i []).length).map fun y => ((M2.getD i []).getD y 0 + (p - (M2.getD i []).getD col 0) * (M2.getD k []).getD y 0) % p).getD x 0 = ((M2.getD i []).getD x 0 + (p - (M2.getD i []).getD col 0) * (M2.getD k []).getD x 0) % p := by
            simp [List.getD, hx']
          rw [e, a1, a2, Int.mul_zero, Int.add_zero, Int.zero_emod]
        · exact range_far hx
theorem Zer.reduce {p : Int} {n c x r : Nat} (hp : 2 ≤ p) : ∀ (k col : Nat) (S : Ech), EOk p n c S → Zer x r S.M → r ≤ S.L.length → Zer x r (reduceE p k col S).M
  | 0, _, _, _, h, _ => h
  | k + 1, col, S, hok, h, hr => by
    obtain ⟨h1, h2⟩ := h.step (p := p) (col := col) hok hr
    exact Zer.reduce hp k (col + 1) _ (hok.step hp) h1 h2
theorem findR_none {M : List (List Int)} {col : Nat} : ∀ f r, findR M col f r = r + f → ∀ i, r ≤ i → i < r + f → (M.getD i []).getD col 0 = 0
  | 0, r, _, i, h1, h2 => by omega
  | f + 1, r, h, i, h1, h2 => by
    by_cases h0 : (M.getD r []).getD col 0 = 0
    · rw [findR_go h0] at h
      by_cases hi : i = r
      · subst hi; exact h0
      · exact findR_none f (r + 1) (by omega) i (by omega) (by omega)
    · rw [findR_at h0] at h
      omega
end Go.Proofs.YthicfkeiggcjjaaGreatDoor

namespace Go.Proofs.YthicfkeiggcjjaaGreatDoor
open Go Go.RowKit

theorem resM_get {p : Int} {M : List (List Int)} {i : Nat} : (resM p M).getD i [] = resRow p (M.getD i []) := by
  by_cases h : i < M.length
  · simp [resM, List.getD, h]
  · simp [resM, List.getD, h, resRow]
/-- a row that grows in its place -/
theorem RS.put {w0 w1 : World} {B b n cap i : Nat} {rs : List Value} {M : List (List Int)} {y : Value} {l : List Int} (h : RS w0 B (.slice (some ⟨b, 0, none⟩) n cap) rs M) (hi : i < rs.length) (hy : OZ w1 B y l)
    (hblk : ∀ k, k < w0.heap.size → (rs.getD i nilV).ownBlock ≠ some k → w1.heap[k]? = w0.heap[k]?) (hyb : ∀ k, y.ownBlock = some k → (rs.getD i nilV).ownBlock = some k ∨ w0.heap.size ≤ k) :
    RS (w1.setCell ⟨b, i, none⟩ y) B (.slice (some ⟨b, 0, none⟩) n cap) (rs.set i y) (M.set i l) := by
  have hm : i < M.length := by rw [h.len]; exact hi
  have hbl : b < w0.heap.size := (World.ownsRow.lt h.own b rfl).2
  have hnb : ∀ j, j < rs.length → (rs.getD j nilV).ownBlock ≠ some b := fun j hj e => h.nb j b hj e rfl
  have hyne : y.ownBlock ≠ some b := fun e => by
    rcases hyb b e with h1 | h1
    · exact hnb i hi h1
    · omega
  have hset : ∀ k, k ≠ b → (w1.setCell ⟨b, i, none⟩ y).heap[k]? = w1.heap[k]? := fun k hk => (only_set1 w1 b i y).block k hk
  refine ⟨?_, by rw [List.length_set, List.length_set]; exact h.len, fun j hj => ?_, fun j k x hj hk e1 e2 => ?_, fun j k hj e1 => ?_⟩
  · obtain ⟨h1, h2⟩ := h.own
    rw [List.length_set]
    refine ⟨by rw [List.length_set]; exact h1, ?_⟩
    rcases h2 with ⟨e, _⟩ | ⟨g, c2, cur, e, hbb, hg, hn, hm2, hs, ht⟩
    · cases e
    · cases e
      refine .inr ⟨b, cap, cur.setIfInBounds i y, rfl, hbb, ?_, hn, hm2, by simpa using hs, ?_⟩
      · have e1 : w1.heap[b]? = some (.cells cur 23 (0, 0)) := by rw [hblk b hbl (hnb i hi)]; exact hg
        simp [World.setCell, Array.getElem?_modify, e1]
      · rw [Nat.mul_one] at ht ⊢
        rw [Array.toList_setIfInBounds, List.take_set, ht]
  · rw [List.length_set] at hj
    by_cases hji : i = j
    · subst hji
      rw [set_at hi, set_at hm]
      exact hy.far (fun k hk => hset k (fun e => hyne (e ▸ hk)))
    · rw [set_off hji, set_off hji]
      refine (h.row j hj).far (fun k hk => ?_)
      have hkb : k ≠ b := fun e => hnb j hj (e ▸ hk)
      rw [hset k hkb, hblk k ((h.row j hj).blk k hk).2 (fun e => hji (h.ne i j k hi hj e hk))]
  · rw [List.length_set] at hj hk
    by_cases hji : i = j
    · by_cases hki : i = k
      · omega
      · exfalso
        subst hji
        rw [set_at hi] at e1
        rw [set_off hki] at e2
        rcases hyb x e1 with h1 | h1
        · exact hki (h.ne i k x hi hk h1 e2)
        · have := ((h.row k hk).blk x e2).2
          omega
    · rw [set_off hji] at e1
      by_cases hki : i = k
      · exfalso
        subst hki
        rw [set_at hi] at e2
        rcases hyb x e2 with h1 | h1
        · exact hji (h.ne i j x hi hj h1 e1)
        · have := ((h.row j hj).blk x e1).2
          omega
      · rw [set_off hki] at e2
        exact h.ne j k x hj hk e1 e2
  · rw [List.length_set] at hj
    by_cases hji : i = j
    · subst hji
      rw [set_at hi] at e1
      intro e
      have : b = k := by simpa [Value.ownBlock] using e
      subst this
      exact hyne e1
    · rw [set_off hji] at e1
      exact h.nb j k hj e1
/-- a matrix whose blocks hold the rows and no more, as a list of rows -/
theorem MatX.rs {w : World} {b c n B : Nat} {rs : List (Nat × Nat)} {M : List (List Int)} (h : MatX w b rs c M) (hm : Mat w b rs c M) (hl : rs.length = n) (hc : ∀ i, i < n → (rs.getD i (0, 0)).2 = c) (hB : ∀ i, i < rs.length → B ≤ (rs.getD i (0, 0)).1) (hbB : B ≤ b) (hn6 : n ≤ 1000000) (hc6 : c ≤ 1000000) :
    RS w B (.slice (some ⟨b, 0, none⟩) n n) (rs.map fun g => Value.slice (some ⟨g.1, 0, none⟩) c g.2) M := by
  have hg : ∀ i, i < n → (rs.map fun g => Value.slice (some ⟨g.1, 0, none⟩) c g.2).getD i nilV = .slice (some ⟨(rs.getD i (0, 0)).1, 0, none⟩) c c := fun i hi => by
    have e : (rs.map fun g => Value.slice (some ⟨g.1, 0, none⟩) c g.2).getD i nilV = .slice (some ⟨(rs.getD i (0, 0)).1, 0, none⟩) c (rs.getD i (0, 0)).2 := by
      simp [List.getD, show i < rs.length by omega]
    rw [e, hc i hi]
  have hln : (rs.map fun g => Value.slice (some ⟨g.1, 0, none⟩) c g.2).length = n := by simp [hl]
  refine ⟨?_, by rw [hln, hm.len, hl], fun i hi => ?_, fun i j k hi hj e1 e2 => ?_, fun i k hi e1 e2 => ?_⟩
  · rw [hln]
    refine ⟨by rw [hln]; omega, .inr ⟨b, n, _, rfl, hbB, h.rows, Nat.le_refl _, by unfold maxLen; omega, by simp [hl], ?_⟩⟩
    rw [Nat.mul_one]
    exact List.take_of_length_le (by simp [hl])
  · rw [hln] at hi
    rw [hg i hi]
    have hr := hm.row i (by omega)
    unfold OZ
    rw [hr.2]
    refine ⟨by rw [List.length_map, hr.2]; omega, .inr ⟨_, c, _, rfl, hB i (by omega), h.row i (by omega), Nat.le_refl _, by unfold maxLen; omega, by rw [List.size_toArray, List.length_map, hr.2, Nat.mul_one], ?_⟩⟩
    rw [Nat.mul_one]
    exact List.take_of_length_le (by rw [List.length_map, hr.2]; exact Nat.le_refl _)
  · rw [hln] at hi hj
    rw [hg i hi] at e1
    rw [hg j hj] at e2
    have a1 : (rs.getD i (0, 0)).1 = k := by simpa [Value.ownBlock] using e1
    have a2 : (rs.getD j (0, 0)).1 = k := by simpa [Value.ownBlock] using e2
    exact hm.ne i j (by omega) (by omega) (a1.trans a2.symm)
  · rw [hln] at hi
    rw [hg i hi] at e1
    have a1 : (rs.getD i (0, 0)).1 = k := by simpa [Value.ownBlock] using e1
    have a2 : b = k := by simpa [Value.ownBlock] using e2
    exact hm.nb i (by omega) (a1.trans a2.symm)
theorem OZ.drew {w : World} {B : Nat} {v : Value} {L : List Int} (h : OZ w B v L) : OZ w.drew B v L := h.far (fun _ _ => rfl)
theorem RS.drew {w : World} {B : Nat} {v : Value} {rs : List Value} {M : List (List Int)} (h : RS w B v rs M) : RS w.drew B v rs M := h.far (fun _ _ => rfl) (fun _ _ _ _ => rfl)

end Go.Proofs.YthicfkeiggcjjaaGreatDoor

namespace Go.Proofs.YthicfkeiggcjjaaGreatDoor
open Go Go.RowKit

def sumN (f : Nat → Int) : Nat → Int
  | 0 => 0
  | n + 1 => sumN f n + f n
theorem sumN_dvd {p : Int} {f g : Nat → Int} : ∀ n, (∀ j, j < n → p ∣ f j - g j) → p ∣ sumN f n - sumN g n
  | 0, _ => ⟨0, by simp [sumN]⟩
  | n + 1, h => by
    have h1 := sumN_dvd n (fun j hj => h j (by omega))
    have h2 := h n (by omega)
    have e : sumN f (n + 1) - sumN g (n + 1) = (sumN f n - sumN g n) + (f n - g n) := by simp only [sumN]; omega
    rw [e]
    exact Int.dvd_add h1 h2
theorem sumN_mul (a : Int) (f : Nat → Int) : ∀ n, sumN (fun j => a * f j) n = a * sumN f n
  | 0 => by simp [sumN]
  | n + 1 => by simp only [sumN]; rw [sumN_mul a f n, Int.mul_add]
theorem sumN_add (f g : Nat → Int) : ∀ n, sumN (fun j => f j + g j) n = sumN f n + sumN g n
  | 0 => rfl
  | n + 1 => by simp only [sumN]; rw [sumN_add f g n]; omega
theorem sumN_zero {f : Nat → Int} : ∀ n, (∀ j, j < n → f j = 0) → sumN f n = 0
  | 0, _ => rfl
  | n + 1, h => by simp only [sumN]; rw [sumN_zero n (fun j hj => h j (by omega)), h n (by omega)]; rfl
theorem sumN_one {f : Nat → Int} {a : Nat} : ∀ n, a < n → (∀ j, j < n → j ≠ a → f j = 0) → sumN f n = f a
  | 0, h, _ => by omega
  | n + 1, h, hz => by
    simp only [sumN]
    by_cases ha : a = n
    · subst ha
      rw [sumN_zero a (fun j hj => hz j (by omega) (by omega))]; omega
    · rw [sumN_one n (by omega) (fun j hj hj2 => hz j (by omega) hj2), hz n (by omega) (fun e => ha e.symm)]; omega
/-- a row times a vector -/
def dotN (c : Nat) (l : List Int) (x : Nat → Int) : Int := sumN (fun j => l.getD j 0 * x j) c
theorem emod_dvd (a p : Int) : p ∣ a % p - a := ⟨-(a / p), by have := Int.emod_add_mul_ediv a p; rw [Int.mul_neg]; omega⟩
theorem getD_range {f : Nat → Int} {k x : Nat} (h : x < k) : ((List.range k).map f).getD x 0 = f x := by simp [List.getD, h]
theorem scale_dot {p inv : Int} {c : Nat} {l : List Int} (hl : l.length = c) (x : Nat → Int) : p ∣ dotN c (scaleRow p inv l) x - inv * dotN c l x := by
  unfold dotN
  rw [← sumN_mul]
  refine sumN_dvd c fun j hj => ?_
  unfold scaleRow
  rw [getD_range (by omega)]
  have e : l.getD j 0 * inv % p * x j - inv * (l.getD j 0 * x j) = (l.getD j 0 * inv % p - l.getD j 0 * inv) * x j := by
    rw [Int.sub_mul]
    congr 1
    rw [← Int.mul_assoc, Int.mul_comm inv]
  rw [e]
  exact Int.dvd_mul_of_dvd_left (emod_dvd _ _)
theorem elim_dot {p : Int} {c col : Nat} {piv row : List Int} (hl : row.length = c) (x : Nat → Int) (h0 : ¬ row.getD col 0 = 0) : p ∣ dotN c (elimRow p col piv row) x - (dotN c row x + (p - row.getD col 0) * dotN c piv x) := by
  unfold dotN
  rw [← sumN_mul, ← sumN_add]
  refine sumN_dvd c fun j hj => ?_
  unfold elimRow
  rw [if_neg h0, getD_range (by omega)]
  have e : (row.getD j 0 + (p - row.getD col 0) * piv.getD j 0) % p * x j - (row.getD j 0 * x j + (p - row.getD col 0) * (piv.getD j 0 * x j)) = ((row.getD j 0 + (p - row.getD col 0) * piv.getD j 0) % p - (row.getD j 0 + (p - row.getD col 0) * piv.getD j 0)) * x j := by
    generalize row.getD j 0 = a
    generalize p - row.getD col 0 = m
    generalize piv.getD j 0 = b
    rw [Int.sub_mul, Int.add_mul, Int.mul_assoc]
  rw [e]
  exact Int.dvd_mul_of_dvd_left (emod_dvd _ _)
end Go.Proofs.YthicfkeiggcjjaaGreatDoor
