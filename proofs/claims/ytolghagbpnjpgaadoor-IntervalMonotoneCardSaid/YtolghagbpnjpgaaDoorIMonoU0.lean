import Derived.Below
namespace Go.Proofs.YtolghagbpnjpgaaDoor

theorem getD_at {zs : List Int} {j : Nat} (h : j < zs.length) : zs.getD j 0 = zs[j] := by simp [List.getD, h]

/-- all are limbs -/
def Wf (zs : List Int) : Prop := ∀ z ∈ zs, 0 ≤ z ∧ z < 4294967296

/-- the number that limbs stand for, the least one first -/
def num : List Int → Int
  | [] => 0
  | z :: zs => z + 4294967296 * num zs

/-- the limbs of a number, without leading zeros -/
def limbs (n : Nat) : List Int := if h : n = 0 then [] else ((n % 4294967296 : Nat) : Int) :: limbs (n / 4294967296)
termination_by n
decreasing_by omega

theorem limbs_zero : limbs 0 = [] := by rw [limbs]; simp
theorem limbs_pos {n : Nat} (h : n ≠ 0) : limbs n = ((n % 4294967296 : Nat) : Int) :: limbs (n / 4294967296) := by rw [limbs]; simp [h]

theorem Wf.nil : Wf [] := by intro z h; cases h
theorem Wf.cons {z : Int} {zs : List Int} (h : 0 ≤ z ∧ z < 4294967296) (hs : Wf zs) : Wf (z :: zs) := by
  intro y hy
  rcases List.mem_cons.1 hy with rfl | hy
  · exact h
  · exact hs y hy
theorem Wf.head {z : Int} {zs : List Int} (h : Wf (z :: zs)) : 0 ≤ z ∧ z < 4294967296 := h z (by simp)
theorem Wf.tail {z : Int} {zs : List Int} (h : Wf (z :: zs)) : Wf zs := fun y hy => h y (by simp [hy])
theorem Wf.take {zs : List Int} (h : Wf zs) (n : Nat) : Wf (zs.take n) := fun y hy => h y (List.mem_of_mem_take hy)
theorem Wf.drop {zs : List Int} (h : Wf zs) (n : Nat) : Wf (zs.drop n) := fun y hy => h y (List.mem_of_mem_drop hy)
theorem Wf.append {a b : List Int} (h : Wf a) (k : Wf b) : Wf (a ++ b) := by
  intro y hy
  rcases List.mem_append.1 hy with hy | hy
  · exact h y hy
  · exact k y hy
theorem Wf.getD {zs : List Int} (h : Wf zs) (j : Nat) : 0 ≤ zs.getD j 0 ∧ zs.getD j 0 < 4294967296 := by
  by_cases hj : j < zs.length
  · rw [getD_at hj]; exact h _ (List.getElem_mem hj)
  · simp [List.getD, List.getElem?_eq_none (by omega : zs.length ≤ j)]
theorem Wf.set {zs : List Int} (h : Wf zs) (j : Nat) {x : Int} (hx : 0 ≤ x ∧ x < 4294967296) : Wf (zs.set j x) := by
  intro y hy
  rcases List.mem_or_eq_of_mem_set hy with hy | rfl
  · exact h y hy
  · exact hx
theorem Wf.replicate (n : Nat) : Wf (List.replicate n 0) := by
  intro y hy
  rw [List.mem_replicate] at hy
  omega

theorem Wf.limbs (n : Nat) : Wf (limbs n) := by
  induction n using Nat.strongRecOn with
  | _ n ih =>
    by_cases h : n = 0
    · subst h; rw [limbs_zero]; exact Wf.nil
    · rw [limbs_pos h]
      exact Wf.cons ⟨by omega, by omega⟩ (ih _ (by omega))

theorem num_nonneg {zs : List Int} (h : Wf zs) : 0 ≤ num zs := by
  induction zs with
  | nil => simp [num]
  | cons z zs ih => have := ih h.tail; have := h.head; simp only [num]; omega

theorem num_limbs (n : Nat) : num (limbs n) = n := by
  induction n using Nat.strongRecOn with
  | _ n ih =>
    by_cases h : n = 0
    · subst h; rw [limbs_zero]; simp [num]
    · rw [limbs_pos h]
      simp only [num, ih (n / 4294967296) (by omega)]
      omega

theorem limbs_inj {a b : Nat} (h : limbs a = limbs b) : a = b := by
  have := congrArg num h
  rw [num_limbs, num_limbs] at this
  omega

/-- limbs whose last one is not zero are those of their number -/
theorem limbs_num {zs : List Int} (h : Wf zs) (hl : ∀ m, zs.length = m + 1 → zs.getD m 0 ≠ 0) : limbs (num zs).toNat = zs := by
  induction zs with
  | nil => simp [num, limbs_zero]
  | cons z zs ih =>
    have hz := h.head
    have hn := num_nonneg h.tail
    have h0 : (num (z :: zs)).toNat ≠ 0 := by
      cases zs with
      | nil => have := hl 0 rfl; simp [num] at this ⊢; omega
      | cons y ys =>
        have hy : limbs (num (y :: ys)).toNat = y :: ys := ih h.tail (fun m hm => by have := hl (m + 1) (by simpa using hm); simpa using this)
        intro h0
        have : (num (y :: ys)).toNat = 0 := by simp only [num] at h0 hn ⊢; omega
        rw [this, limbs_zero] at hy
        cases hy
    rw [limbs_pos h0]
    have e1 : (((num (z :: zs)).toNat % 4294967296 : Nat) : Int) = z := by simp only [num]; omega
    have e2 : (num (z :: zs)).toNat / 4294967296 = (num zs).toNat := by simp only [num]; omega
    rw [e1, e2, ih h.tail]
    intro m hm
    have := hl (m + 1) (by simp [hm])
    simpa using this

theorem num_append (a b : List Int) : num (a ++ b) = num a + 4294967296 ^ a.length * num b := by
  induction a with
  | nil => simp [num]
  | cons z zs ih =>
    simp only [List.cons_append, num, ih, List.length_cons]
    rw [Int.pow_succ, Int.mul_add, Int.mul_comm (4294967296 ^ zs.length) 4294967296, Int.mul_assoc]
    omega

theorem num_replicate (n : Nat) : num (List.replicate n 0) = 0 := by
  induction n with
  | zero => simp [num]
  | succ n ih => simp [List.replicate_succ, num, ih]

theorem num_lt {zs : List Int} (h : Wf zs) : num zs < 4294967296 ^ zs.length := by
  induction zs with
  | nil => simp [num]
  | cons z zs ih =>
    have := ih h.tail
    have hz := h.head
    simp only [num, List.length_cons, Int.pow_succ]
    omega

theorem pow_pos' (n : Nat) : (0 : Int) < 4294967296 ^ n := by
  induction n with
  | zero => simp
  | succ n ih => rw [Int.pow_succ]; omega

/-- how many limbs are left without the leading zeros -/
def tlen (zs : List Int) : Nat → Nat
  | 0 => 0
  | n + 1 => if zs.getD n 0 = 0 then tlen zs n else n + 1

theorem tlen_le (zs : List Int) (n : Nat) : tlen zs n ≤ n := by
  induction n with
  | zero => simp [tlen]
  | succ n ih => unfold tlen; split <;> omega

theorem take_succ_getD (zs : List Int) (k : Nat) (h : k < zs.length) : zs.take (k + 1) = zs.take k ++ [zs.getD k 0] := by
  rw [List.take_succ_eq_append_getElem h, getD_at h]

theorem num_take_succ (zs : List Int) (k : Nat) (h : k < zs.length) : num (zs.take (k + 1)) = num (zs.take k) + 4294967296 ^ k * zs.getD k 0 := by
  rw [take_succ_getD zs k h, num_append]
  simp [num, List.length_take, Nat.min_eq_left (Nat.le_of_lt h)]

theorem take_tlen {zs : List Int} (h : Wf zs) (n : Nat) (hn : n ≤ zs.length) : zs.take (tlen zs n) = limbs (num (zs.take n)).toNat := by
  induction n with
  | zero => simp [tlen, num, limbs_zero]
  | succ n ih =>
    unfold tlen
    by_cases h0 : zs.getD n 0 = 0
    · rw [if_pos h0, ih (by omega), num_take_succ zs n (by omega), h0]
      simp
    · rw [if_neg h0, limbs_num (h.take _)]
      intro m hm
      simp only [List.length_take] at hm
      obtain rfl : m = n := by omega
      rw [take_succ_getD zs m (by omega)]
      simpa [List.getD, List.length_take, Nat.min_eq_left (show m ≤ zs.length by omega)] using h0

/-- shorter limbs, smaller number -/
theorem limbs_len_le (n k : Nat) : (limbs n).length ≤ k ↔ n < 4294967296 ^ k := by
  induction k generalizing n with
  | zero =>
    by_cases h : n = 0
    · subst h; simp [limbs_zero]
    · rw [limbs_pos h]; simp; omega
  | succ k ih =>
    by_cases h : n = 0
    · subst h; simp [limbs_zero]; exact Nat.pos_of_ne_zero (by simp)
    · rw [limbs_pos h, List.length_cons, Nat.succ_le_succ_iff, ih, Nat.pow_succ]
      omega

theorem lt_of_len_lt {a b : Nat} (h : (limbs a).length < (limbs b).length) : a < b := by
  have h1 := (limbs_len_le a (limbs a).length).1 (Nat.le_refl _)
  have h2 : ¬ b < 4294967296 ^ (limbs a).length := fun h3 => by have := (limbs_len_le b _).2 h3; omega
  omega

theorem limbs_mono {a b : Nat} (h : a ≤ b) : (limbs a).length ≤ (limbs b).length := by
  rw [limbs_len_le]
  have := (limbs_len_le b (limbs b).length).1 (Nat.le_refl _)
  omega

/-- the highest limb in which they differ decides -/
theorem num_lt_of_limb {a b : List Int} (ha : Wf a) (hb : Wf b) (hl : a.length = b.length) (i : Nat) (hi : i < a.length)
    (hs : a.drop (i + 1) = b.drop (i + 1)) (h : a.getD i 0 < b.getD i 0) : num a < num b := by
  have ea : num a = num (a.take (i + 1)) + 4294967296 ^ (i + 1) * num (a.drop (i + 1)) := by
    have := num_append (a.take (i + 1)) (a.drop (i + 1))
    rw [List.take_append_drop] at this
    rw [this, List.length_take, Nat.min_eq_left (by omega)]
  have eb : num b = num (b.take (i + 1)) + 4294967296 ^ (i + 1) * num (b.drop (i + 1)) := by
    have := num_append (b.take (i + 1)) (b.drop (i + 1))
    rw [List.take_append_drop] at this
    rw [this, List.length_take, Nat.min_eq_left (by omega)]
  rw [ea, eb, hs, num_take_succ a i hi, num_take_succ b i (by omega)]
  have h1 := num_lt (ha.take i)
  rw [List.length_take, Nat.min_eq_left (by omega)] at h1
  have h2 := num_nonneg (hb.take i)
  have h3 : (4294967296 ^ i : Int) * a.getD i 0 + 4294967296 ^ i ≤ 4294967296 ^ i * b.getD i 0 := by
    have := Int.mul_le_mul_of_nonneg_left (show a.getD i 0 + 1 ≤ b.getD i 0 by omega) (Int.le_of_lt (pow_pos' i))
    rw [Int.mul_add, Int.mul_one] at this
    exact this
  omega

/-- -1, 0 or 1 -/
def sgn3 (x y : Int) : Int := if x < y then -1 else if y < x then 1 else 0

theorem sgn3_lens {a b : Nat} (h : (limbs a).length ≠ (limbs b).length) : sgn3 ((limbs a).length : Int) ((limbs b).length : Int) = sgn3 a b := by
  unfold sgn3
  rcases Nat.lt_or_gt_of_ne h with h1 | h1
  · have := lt_of_len_lt h1
    rw [if_pos (by omega), if_pos (by omega)]
  · have := lt_of_len_lt h1
    rw [if_neg (by omega), if_pos (by omega), if_neg (by omega), if_pos (by omega)]

theorem sgn3_limb {a b : Nat} (hl : (limbs a).length = (limbs b).length) (i : Nat) (hi : i < (limbs a).length)
    (hs : (limbs a).drop (i + 1) = (limbs b).drop (i + 1)) (h : (limbs a).getD i 0 ≠ (limbs b).getD i 0) : sgn3 ((limbs a).getD i 0) ((limbs b).getD i 0) = sgn3 a b := by
  unfold sgn3
  rcases Int.lt_or_gt_of_ne h with h1 | h1
  · have := num_lt_of_limb (Wf.limbs a) (Wf.limbs b) hl i hi hs h1
    rw [num_limbs, num_limbs] at this
    rw [if_pos h1, if_pos this]
  · have := num_lt_of_limb (Wf.limbs b) (Wf.limbs a) hl.symm i (by omega) hs.symm h1
    rw [num_limbs, num_limbs] at this
    rw [if_neg (by omega), if_pos h1, if_neg (by omega), if_pos this]

theorem drop_eq_cons {zs ys : List Int} {i : Nat} (h : i < zs.length) (h' : i < ys.length) (hd : zs.drop (i + 1) = ys.drop (i + 1)) (he : zs.getD i 0 = ys.getD i 0) : zs.drop i = ys.drop i := by
  rw [List.drop_eq_getElem_cons h, List.drop_eq_getElem_cons h', hd, ← getD_at h, ← getD_at h', he]

theorem limbs_at (a i : Nat) : (limbs a).getD i 0 = ((a / 4294967296 ^ i % 4294967296 : Nat) : Int) := by
  induction i generalizing a with
  | zero =>
    by_cases h : a = 0
    · subst h; simp [limbs_zero]
    · rw [limbs_pos h]; simp
  | succ i ih =>
    by_cases h : a = 0
    · subst h; simp [limbs_zero]
    · rw [limbs_pos h]
      have := ih (a / 4294967296)
      rw [Nat.div_div_eq_div_mul, ← Nat.pow_succ'] at this
      simpa using this

end Go.Proofs.YtolghagbpnjpgaaDoor
