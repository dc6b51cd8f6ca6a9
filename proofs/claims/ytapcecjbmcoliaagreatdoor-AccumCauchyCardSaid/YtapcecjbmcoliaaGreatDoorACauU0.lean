import Derived.Below
namespace Go.Proofs.YtapcecjbmcoliaaGreatDoor

theorem getD_at {zs : List Int} {j : Nat} (h : j < zs.length) : zs.getD j 0 = zs[j] := by simp [List.getD, h]

/-- all are limbs -/
def Wf (zs : List Int) : Prop := ∀ z ∈ zs, 0 ≤ z ∧ z < 4294967296

/-- the number that limbs stand for, the least one first -/
def num : List Int → Int
  | [] => 0
  | z :: zs => z + 4294967296 * num zs

/-- the limbs of a number, without leading zeros -/
def limbs (n : Nat) : List Int := if h : n = 0 then [] else ((n % 4294967296 : Nat) : Int) :: limbs (n / 4294967296)
termination_by n
decreasing_by omega

theorem limbs_zero : limbs 0 = [] := by rw [limbs]; simp
theorem limbs_pos {n : Nat} (h : n ≠ 0) : limbs n = ((n % 4294967296 : Nat) : Int) :: limbs (n / 4294967296) := by rw [limbs]; simp [h]

theorem Wf.nil : Wf [] := by intro z h; cases h
theorem Wf.cons {z : Int} {zs : List Int} (h : 0 ≤ z ∧ z < 4294967296) (hs : Wf zs) : Wf (z :: zs) := by
  intro y hy
  rcases List.mem_cons.1 hy with rfl | hy
  · exact h
  · exact hs y hy
theorem Wf.head {z : Int} {zs : List Int} (h : Wf (z :: zs)) : 0 ≤ z ∧ z < 4294967296 := h z (by simp)
theorem Wf.tail {z : Int} {zs : List Int} (h : Wf (z :: zs)) : Wf zs := fun y hy => h y (by simp [hy])
theorem Wf.take {zs : List Int} (h : Wf zs) (n : Nat) : Wf (zs.take n) := fun y hy => h y (List.mem_of_mem_take hy)
theorem Wf.drop {zs : List Int} (h : Wf zs) (n : Nat) : Wf (zs.drop n) := fun y hy => h y (List.mem_of_mem_drop hy)
theorem Wf.append {a b : List Int} (h : Wf a) (k : Wf b) : Wf (a ++ b) := by
  intro y hy
  rcases List.mem_append.1 hy with hy | hy
  · exact h y hy
  · exact k y hy
theorem Wf.getD {zs : List Int} (h : Wf zs) (j : Nat) : 0 ≤ zs.getD j 0 ∧ zs.getD j 0 < 4294967296 := by
  by_cases hj : j < zs.length
  · rw [getD_at hj]; exact h _ (List.getElem_mem hj)
  · simp [List.getD, List.getElem?_eq_none (by omega : zs.length ≤ j)]
theorem Wf.set {zs : List Int} (h : Wf zs) (j : Nat) {x : Int} (hx : 0 ≤ x ∧ x < 4294967296) : Wf (zs.set j x) := by
  intro y hy
  rcases List.mem_or_eq_of_mem_set hy with hy | rfl
  · exact h y hy
  · exact hx
theorem Wf.replicate (n : Nat) : Wf (List.replicate n 0) := by
  intro y hy
  rw [List.mem_replicate] at hy
  omega

theorem Wf.limbs (n : Nat) : Wf (limbs n) := by
  induction n using Nat.strongRecOn with
  | _ n ih =>
    by_cases h : n = 0
    · subst h; rw [limbs_zero]; exact Wf.nil
    · rw [limbs_pos h]
      exact Wf.cons ⟨by omega, by omega⟩ (ih _ (by omega))

theorem num_nonneg {zs : List Int} (h : Wf zs) : 0 ≤ num zs := by
  induction zs with
  | nil => simp [num]
  | cons z zs ih => have := ih h.tail; have := h.head; simp only [num]; omega

theorem num_limbs (n : Nat) : num (limbs n) = n := by
  induction n using Nat.strongRecOn with
  | _ n ih =>
    by_cases h : n = 0
    · subst h; rw [limbs_zero]; simp [num]
    · rw [limbs_pos h]
      simp only [num, ih (n / 4294967296) (by omega)]
      omega

theorem limbs_inj {a b : Nat} (h : limbs a = limbs b) : a = b := by
  have := congrArg num h
  rw [num_limbs, num_limbs] at this
  omega

/-- limbs whose last one is not zero are those of their number -/
theorem limbs_num {zs : List Int} (h : Wf zs) (hl : ∀ m, zs.length = m + 1 → zs.getD m 0 ≠ 0) : limbs (num zs).toNat = zs := by
  induction zs with
  | nil => simp [num, limbs_zero]
  | cons z zs ih =>
    have hz := h.head
    have hn := num_nonneg h.tail
    have h0 : (num (z :: zs)).toNat ≠ 0 := by
      cases zs with
      | nil => have := hl 0 rfl; simp [num] at this ⊢; omega
      | cons y ys =>
        have hy : limbs (num (y :: ys)).toNat = y :: ys := ih h.tail (fun m hm => by have := hl (m + 1) (by simpa using hm); simpa using this)
        intro h0
        have : (num (y :: ys)).toNat = 0 := by simp only [num] at h0 hn ⊢; omega
        rw [this, limbs_zero] at hy
        cases hy
    rw [limbs_pos h0]
    have e1 : (((num (z :: zs)).toNat % 4294967296 : Nat) : Int) = z := by simp only [num]; omega
    have e2 : (num (z :: zs)).toNat / 4294967296 = (num zs).toNat := by simp only [num]; omega
    rw [e1, e2, ih h.tail]
    intro m hm
    have := hl (m + 1) (by simp [hm])
    simpa using this

theorem num_append (a b : List Int) : num (a ++ b) = num a + 4294967296 ^ a.length * num b := by
  induction a with
  | nil => simp [num]
  | cons z zs ih =>
    simp only [List.cons_append, num, ih, List.length_cons]
    rw [Int.pow_succ, Int.mul_add, Int.mul_comm (4294967296 ^ zs.length) 4294967296, Int.mul_assoc]
    omega

theorem num_replicate (n : Nat) : num (List.replicate n 0) = 0 := by
  induction n with
  | zero => simp [num]
  | succ n ih => simp [List.replicate_succ, num, ih]

theorem num_lt {zs : List Int} (h : Wf zs) : num zs < 4294967296 ^ zs.length := by
  induction zs with
  | nil => simp [num]
  | cons z zs ih =>
    have := ih h.tail
    have hz := h.head
    simp only [num, List.length_cons, Int.pow_succ]
    omega

theorem pow_pos' (n : Nat) : (0 : Int) < 4294967296 ^ n := by
  induction n with
  | zero => simp
  | succ n ih => rw [Int.pow_succ]; omega

/-- how many limbs are left without the leading zeros -/
def tlen (zs : List Int) : Nat → Nat
  | 0 => 0
  | n + 1 => if zs.getD n 0 = 0 then tlen zs n else n + 1

theorem tlen_le (zs : List Int) (n : Nat) : tlen zs n ≤ n := by
  induction n with
  | zero => simp [tlen]
  | succ n ih => unfold tlen; split <;> omega

theorem take_succ_getD (zs : List Int) (k : Nat) (h : k < zs.length) : zs.take (k + 1) = zs.take k ++ [zs.getD k 0] := by
  rw [List.take_succ_eq_append_getElem h, getD_at h]

theorem num_take_succ (zs : List Int) (k : Nat) (h : k < zs.length) : num (zs.take (k + 1)) = num (zs.take k) + 4294967296 ^ k * zs.getD k 0 := by
  rw [take_succ_getD zs k h, num_append]
  simp [num, List.length_take, Nat.min_eq_left (Nat.le_of_lt h)]

theorem take_tlen {zs : List Int} (h : Wf zs) (n : Nat) (hn : n ≤ zs.length) : zs.take (tlen zs n) = limbs (num (zs.take n)).toNat := by
  induction n with
  | zero => simp [tlen, num, limbs_zero]
  | succ n ih =>
    unfold tlen
    by_cases h0 : zs.getD n 0 = 0
    · rw [if_pos h0, ih (by omega), num_take_succ zs n (by omega), h0]
      simp
    · rw [if_neg h0, limbs_num (h.take _)]
      intro m hm
      simp only [List.length_take] at hm
      obtain rfl : m = n := by omega
      rw [take_succ_getD zs m (by omega)]
      simpa [List.getD, List.length_take, Nat.min_eq_left (show m ≤ zs.length by omega)] using h0

theorem tlen_eq {zs : List Int} (h : Wf zs) : (limbs (num zs).toNat).length = tlen zs zs.length := by
  have := take_tlen h zs.length (Nat.le_refl _)
  rw [List.take_length] at this
  rw [← this, List.length_take, Nat.min_eq_left (tlen_le _ _)]

/-- shorter limbs, smaller number -/
theorem limbs_len_le (n k : Nat) : (limbs n).length ≤ k ↔ n < 4294967296 ^ k := by
  induction k generalizing n with
  | zero =>
    by_cases h : n = 0
    · subst h; simp [limbs_zero]
    · rw [limbs_pos h]; simp; omega
  | succ k ih =>
    by_cases h : n = 0
    · subst h; simp [limbs_zero]; exact Nat.pos_of_ne_zero (by simp)
    · rw [limbs_pos h, List.length_cons, Nat.succ_le_succ_iff, ih, Nat.pow_succ]
      omega

theorem lt_of_len_lt {a b : Nat} (h : (limbs a).length < (limbs b).length) : a < b := by
  have h1 := (limbs_len_le a (limbs a).length).1 (Nat.le_refl _)
  have h2 : ¬ b < 4294967296 ^ (limbs a).length := fun h3 => by have := (limbs_len_le b _).2 h3; omega
  omega

theorem limbs_lt (a : Nat) : (a : Int) < 4294967296 ^ (limbs a).length := by
  have := num_lt (Wf.limbs a)
  rwa [num_limbs] at this

theorem limbs_mono {a b : Nat} (h : a ≤ b) : (limbs a).length ≤ (limbs b).length := by
  rw [limbs_len_le]
  have := (limbs_len_le b (limbs b).length).1 (Nat.le_refl _)
  omega

/-- the highest limb in which they differ decides -/
theorem num_lt_of_limb {a b : List Int} (ha : Wf a) (hb : Wf b) (hl : a.length = b.length) (i : Nat) (hi : i < a.length)
    (hs : a.drop (i + 1) = b.drop (i + 1)) (h : a.getD i 0 < b.getD i 0) : num a < num b := by
  have ea : num a = num (a.take (i + 1)) + 4294967296 ^ (i + 1) * num (a.drop (i + 1)) := by
    have := num_append (a.take (i + 1)) (a.drop (i + 1))
    rw [List.take_append_drop] at this
    rw [this, List.length_take, Nat.min_eq_left (by omega)]
  have eb : num b = num (b.take (i + 1)) + 4294967296 ^ (i + 1) * num (b.drop (i + 1)) := by
    have := num_append (b.take (i + 1)) (b.drop (i + 1))
    rw [List.take_append_drop] at this
    rw [this, List.length_take, Nat.min_eq_left (by omega)]
  rw [ea, eb, hs, num_take_succ a i hi, num_take_succ b i (by omega)]
  have h1 := num_lt (ha.take i)
  rw [List.length_take, Nat.min_eq_left (by omega)] at h1
  have h2 := num_nonneg (hb.take i)
  have h3 : (4294967296 ^ i : Int) * a.getD i 0 + 4294967296 ^ i ≤ 4294967296 ^ i * b.getD i 0 := by
    have := Int.mul_le_mul_of_nonneg_left (show a.getD i 0 + 1 ≤ b.getD i 0 by omega) (Int.le_of_lt (pow_pos' i))
    rw [Int.mul_add, Int.mul_one] at this
    exact this
  omega

/-- -1, 0 or 1 -/
def sgn3 (x y : Int) : Int := if x < y then -1 else if y < x then 1 else 0

theorem sgn3_lens {a b : Nat} (h : (limbs a).length ≠ (limbs b).length) : sgn3 ((limbs a).length : Int) ((limbs b).length : Int) = sgn3 a b := by
  unfold sgn3
  rcases Nat.lt_or_gt_of_ne h with h1 | h1
  · have := lt_of_len_lt h1
    rw [if_pos (by omega), if_pos (by omega)]
  · have := lt_of_len_lt h1
    rw [if_neg (by omega), if_pos (by omega), if_neg (by omega), if_pos (by omega)]

theorem sgn3_limb {a b : Nat} (hl : (limbs a).length = (limbs b).length) (i : Nat) (hi : i < (limbs a).length)
    (hs : (limbs a).drop (i + 1) = (limbs b).drop (i + 1)) (h : (limbs a).getD i 0 ≠ (limbs b).getD i 0) : sgn3 ((limbs a).getD i 0) ((limbs b).getD i 0) = sgn3 a b := by
  unfold sgn3
  rcases Int.lt_or_gt_of_ne h with h1 | h1
  · have := num_lt_of_limb (Wf.limbs a) (Wf.limbs b) hl i hi hs h1
    rw [num_limbs, num_limbs] at this
    rw [if_pos h1, if_pos this]
  · have := num_lt_of_limb (Wf.limbs b) (Wf.limbs a) hl.symm i (by omega) hs.symm h1
    rw [num_limbs, num_limbs] at this
    rw [if_neg (by omega), if_pos h1, if_neg (by omega), if_pos this]

theorem drop_eq_cons {zs ys : List Int} {i : Nat} (h : i < zs.length) (h' : i < ys.length) (hd : zs.drop (i + 1) = ys.drop (i + 1)) (he : zs.getD i 0 = ys.getD i 0) : zs.drop i = ys.drop i := by
  rw [List.drop_eq_getElem_cons h, List.drop_eq_getElem_cons h', hd, ← getD_at h, ← getD_at h', he]

theorem getD_of_drop {zs ys : List Int} {k : Nat} (h : zs.drop k = ys.drop k) : zs.getD k 0 = ys.getD k 0 := by
  have := congrArg (fun l => l.getD 0 0) h
  simpa [List.getD] using this

theorem take_set_succ (zs : List Int) (k : Nat) (z : Int) (h : k < zs.length) : (zs.set k z).take (k + 1) = zs.take k ++ [z] := by
  have e : (zs.set k z).take k = zs.take k := by rw [List.take_set]; exact List.set_eq_of_length_le (by simp; omega)
  rw [take_succ_getD _ _ (by simpa using h), e]
  simp [List.getD, h]

theorem num_take_set (zs : List Int) (k : Nat) (z : Int) (h : k < zs.length) : num ((zs.set k z).take (k + 1)) = num (zs.take k) + 4294967296 ^ k * z := by
  rw [take_set_succ zs k z h, num_append]
  simp [num, List.length_take, Nat.min_eq_left (Nat.le_of_lt h)]

theorem num_set (L : List Int) (i : Nat) (v : Int) (h : i < L.length) : num (L.set i v) = num L + 4294967296 ^ i * (v - L.getD i 0) := by
  induction L generalizing i with
  | nil => simp at h
  | cons z zs ih =>
    cases i with
    | zero => simp only [List.set_cons_zero, num, List.getD_cons_zero]; omega
    | succ i =>
      have := ih i (by simpa using h)
      simp only [List.set_cons_succ, num, this, List.getD_cons_succ, Int.pow_succ]
      rw [Int.mul_add, Int.mul_comm (4294967296 ^ i) 4294967296, Int.mul_assoc]
      omega

theorem getD_set (L : List Int) (i j : Nat) (v : Int) (h : i < L.length) : (L.set i v).getD j 0 = if i = j then v else L.getD j 0 := by
  simp only [List.getD, List.getElem?_set]
  split <;> simp_all

/-- the first k limbs are done: N has been added to them, and c is carried -/
def Added (L Lk : List Int) (k : Nat) (c N : Int) : Prop :=
  Lk.length = L.length ∧ Wf Lk ∧ Lk.drop k = L.drop k ∧ num (Lk.take k) + 4294967296 ^ k * c = num (L.take k) + N

theorem Added.start {L : List Int} (h : Wf L) : Added L L 0 0 0 := ⟨rfl, h, rfl, by simp⟩

theorem Added.at {L xs : List Int} {x : Int} (h : Wf L) (k : Nat) : Added L L (k + 0) 0 (4294967296 ^ k * (x * num (xs.take 0))) := ⟨rfl, h, rfl, by simp [num]⟩

theorem Added.step {L Lk : List Int} {k : Nat} {c N : Int} (h : Added L Lk k c N) (hk : k < L.length) (y t : Int) (ht : t = c + (L.getD k 0 + y)) :
    Added L (Lk.set k (t % 4294967296)) (k + 1) (t / 4294967296) (N + 4294967296 ^ k * y) := by
  obtain ⟨h1, h2, h3, h4⟩ := h
  refine ⟨by simpa using h1, h2.set _ ⟨by omega, by omega⟩, ?_, ?_⟩
  · have : (Lk.drop k).drop 1 = (L.drop k).drop 1 := by rw [h3]
    rw [List.drop_drop, List.drop_drop] at this
    rw [← this, List.drop_set_of_lt (by omega)]
  · rw [num_take_set _ _ _ (by omega), num_take_succ L k hk, Int.pow_succ]
    have e : t % 4294967296 + 4294967296 * (t / 4294967296) = t := by omega
    have e2 : (4294967296 ^ k : Int) * (t % 4294967296) + 4294967296 ^ k * 4294967296 * (t / 4294967296) = 4294967296 ^ k * t := by
      rw [Int.mul_assoc, ← Int.mul_add, e]
    have e3 : (4294967296 ^ k : Int) * t = 4294967296 ^ k * c + (4294967296 ^ k * L.getD k 0 + 4294967296 ^ k * y) := by
      rw [ht, Int.mul_add, Int.mul_add]
    omega

theorem Added.done {L Lk : List Int} {k : Nat} {N : Int} (h : Added L Lk k 0 N) : num Lk = num L + N := by
  obtain ⟨h1, h2, h3, h4⟩ := h
  have a := num_append (Lk.take k) (Lk.drop k)
  have b := num_append (L.take k) (L.drop k)
  rw [List.take_append_drop] at a b
  rw [a, b, h3, List.length_take, List.length_take, h1]
  simp at h4
  rw [h4]
  omega

/-- a carry at the end would be too great -/
theorem Added.fits {L Lk : List Int} {k : Nat} {c N : Int} (h : Added L Lk k c N) (hk : k ≤ L.length) (hN : num L + N < 4294967296 ^ L.length) (hc : 0 < c) : k < L.length := by
  obtain ⟨h1, h2, h3, h4⟩ := h
  by_cases h5 : k < L.length
  · exact h5
  · obtain rfl : k = L.length := by omega
    rw [List.take_of_length_le (Nat.le_of_eq h1), List.take_length] at h4
    have h6 := num_nonneg h2
    have h7 : (4294967296 ^ L.length : Int) * 1 ≤ 4294967296 ^ L.length * c := Int.mul_le_mul_of_nonneg_left (by omega) (Int.le_of_lt (pow_pos' _))
    omega

/-- the first k limbs are done: N has been taken from them, and c is borrowed -/
def Taken (L Lk : List Int) (k : Nat) (c N : Int) : Prop :=
  Lk.length = L.length ∧ Wf Lk ∧ Lk.drop k = L.drop k ∧ num (Lk.take k) = num (L.take k) - N + 4294967296 ^ k * c

theorem Taken.start {L : List Int} (h : Wf L) : Taken L L 0 0 0 := ⟨rfl, h, rfl, by simp⟩

theorem Taken.step {L Lk : List Int} {k : Nat} {c N : Int} (h : Taken L Lk k c N) (hk : k < L.length) (y z c' : Int) (hz : 0 ≤ z ∧ z < 4294967296) (ht : z = L.getD k 0 - y - c + 4294967296 * c') :
    Taken L (Lk.set k z) (k + 1) c' (N + 4294967296 ^ k * y) := by
  obtain ⟨h1, h2, h3, h4⟩ := h
  refine ⟨by simpa using h1, h2.set _ hz, ?_, ?_⟩
  · have : (Lk.drop k).drop 1 = (L.drop k).drop 1 := by rw [h3]
    rw [List.drop_drop, List.drop_drop] at this
    rw [← this, List.drop_set_of_lt (by omega)]
  · rw [num_take_set _ _ _ (by omega), num_take_succ L k hk, Int.pow_succ]
    have e3 : (4294967296 ^ k : Int) * z = 4294967296 ^ k * L.getD k 0 - 4294967296 ^ k * y - 4294967296 ^ k * c + 4294967296 ^ k * 4294967296 * c' := by
      rw [ht, Int.mul_add, Int.mul_sub, Int.mul_sub, Int.mul_assoc]
    omega

theorem Taken.done {L Lk : List Int} {k : Nat} {N : Int} (h : Taken L Lk k 0 N) : num Lk = num L - N := by
  obtain ⟨h1, h2, h3, h4⟩ := h
  have a := num_append (Lk.take k) (Lk.drop k)
  have b := num_append (L.take k) (L.drop k)
  rw [List.take_append_drop] at a b
  rw [a, b, h3, List.length_take, List.length_take, h1]
  simp at h4
  rw [h4]
  omega

/-- a borrow at the end would be too great -/
theorem Taken.fits {L Lk : List Int} {k : Nat} {c N : Int} (h : Taken L Lk k c N) (hk : k ≤ L.length) (hN : N ≤ num L) (hc : 0 < c) : k < L.length := by
  obtain ⟨h1, h2, h3, h4⟩ := h
  by_cases h5 : k < L.length
  · exact h5
  · obtain rfl : k = L.length := by omega
    rw [List.take_of_length_le (Nat.le_of_eq h1), List.take_length] at h4
    have h6 := num_lt h2
    rw [h1] at h6
    have h7 : (4294967296 ^ L.length : Int) * 1 ≤ 4294967296 ^ L.length * c := Int.mul_le_mul_of_nonneg_left (by omega) (Int.le_of_lt (pow_pos' _))
    omega

theorem limbs_at (a i : Nat) : (limbs a).getD i 0 = ((a / 4294967296 ^ i % 4294967296 : Nat) : Int) := by
  induction i generalizing a with
  | zero =>
    by_cases h : a = 0
    · subst h; simp [limbs_zero]
    · rw [limbs_pos h]; simp
  | succ i ih =>
    by_cases h : a = 0
    · subst h; simp [limbs_zero]
    · rw [limbs_pos h]
      have := ih (a / 4294967296)
      rw [Nat.div_div_eq_div_mul, ← Nat.pow_succ'] at this
      simpa using this

end Go.Proofs.YtapcecjbmcoliaaGreatDoor
