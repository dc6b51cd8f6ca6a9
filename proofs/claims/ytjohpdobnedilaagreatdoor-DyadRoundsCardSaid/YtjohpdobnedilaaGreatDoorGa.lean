/- Plain facts about lists of limbs and the numbers that they stand for. No program stands here. -/
import Derived.Below
import Derived.WalkKit
import Derived.WalkSmall
import Derived.Laws.CopyOwn
import Derived.Lib.Hide
import Derived.Deep.QuietTactic
import Derived.BigQuiet
import Derived.Test.YtjohpdobnedilaaGreatDoorRows
import Derived.WalkSpells
import Derived.WalkLawsBesides
import Derived.OwnWalk
import Derived.Laws.AppendOwn
namespace Go.Proofs.YtjohpdobnedilaaGreatDoor

theorem getD_at {zs : List Int} {j : Nat} (h : j < zs.length) : zs.getD j 0 = zs[j] := by simp [List.getD, h]

/-- all are limbs -/
def Wf (zs : List Int) : Prop := ∀ z ∈ zs, 0 ≤ z ∧ z < 4294967296

/-- the number that limbs stand for, the least one first -/
def num : List Int → Int
  | [] => 0
  | z :: zs => z + 4294967296 * num zs

/-- the limbs of a number, without leading zeros -/
def limbs (n : Nat) : List Int := if h : n = 0 then [] else ((n % 4294967296 : Nat) : Int) :: limbs (n / 4294967296)
termination_by n
decreasing_by omega

theorem limbs_zero : limbs 0 = [] := by rw [limbs]; simp
theorem limbs_pos {n : Nat} (h : n ≠ 0) : limbs n = ((n % 4294967296 : Nat) : Int) :: limbs (n / 4294967296) := by rw [limbs]; simp [h]

theorem Wf.nil : Wf [] := by intro z h; cases h
theorem Wf.cons {z : Int} {zs : List Int} (h : 0 ≤ z ∧ z < 4294967296) (hs : Wf zs) : Wf (z :: zs) := by
  intro y hy
  rcases List.mem_cons.1 hy with rfl | hy
  · exact h
  · exact hs y hy
theorem Wf.head {z : Int} {zs : List Int} (h : Wf (z :: zs)) : 0 ≤ z ∧ z < 4294967296 := h z (by simp)
theorem Wf.tail {z : Int} {zs : List Int} (h : Wf (z :: zs)) : Wf zs := fun y hy => h y (by simp [hy])
theorem Wf.take {zs : List Int} (h : Wf zs) (n : Nat) : Wf (zs.take n) := fun y hy => h y (List.mem_of_mem_take hy)
theorem Wf.drop {zs : List Int} (h : Wf zs) (n : Nat) : Wf (zs.drop n) := fun y hy => h y (List.mem_of_mem_drop hy)
theorem Wf.append {a b : List Int} (h : Wf a) (k : Wf b) : Wf (a ++ b) := by
  intro y hy
  rcases List.mem_append.1 hy with hy | hy
  · exact h y hy
  · exact k y hy
theorem Wf.getD {zs : List Int} (h : Wf zs) (j : Nat) : 0 ≤ zs.getD j 0 ∧ zs.getD j 0 < 4294967296 := by
  by_cases hj : j < zs.length
  · rw [getD_at hj]; exact h _ (List.getElem_mem hj)
  · simp [List.getD, List.getElem?_eq_none (by omega : zs.length ≤ j)]
theorem Wf.set {zs : List Int} (h : Wf zs) (j : Nat) {x : Int} (hx : 0 ≤ x ∧ x < 4294967296) : Wf (zs.set j x) := by
  intro y hy
  rcases List.mem_or_eq_of_mem_set hy with hy | rfl
  · exact h y hy
  · exact hx
theorem Wf.replicate (n : Nat) : Wf (List.replicate n 0) := by
  intro y hy
  rw [List.mem_replicate] at hy
  omega

theorem Wf.limbs (n : Nat) : Wf (limbs n) := by
  induction n using Nat.strongRecOn with
  | _ n ih =>
    by_cases h : n = 0
    · subst h; rw [limbs_zero]; exact Wf.nil
    · rw [limbs_pos h]
      exact Wf.cons ⟨by omega, by omega⟩ (ih _ (by omega))

theorem num_nonneg {zs : List Int} (h : Wf zs) : 0 ≤ num zs := by
  induction zs with
  | nil => simp [num]
  | cons z zs ih => have := ih h.tail; have := h.head; simp only [num]; omega

theorem num_limbs (n : Nat) : num (limbs n) = n := by
  induction n using Nat.strongRecOn with
  | _ n ih =>
    by_cases h : n = 0
    · subst h; rw [limbs_zero]; simp [num]
    · rw [limbs_pos h]
      simp only [num, ih (n / 4294967296) (by omega)]
      omega

theorem limbs_inj {a b : Nat} (h : limbs a = limbs b) : a = b := by
  have := congrArg num h
  rw [num_limbs, num_limbs] at this
  omega

/-- limbs whose last one is not zero are those of their number -/
theorem limbs_num {zs : List Int} (h : Wf zs) (hl : ∀ m, zs.length = m + 1 → zs.getD m 0 ≠ 0) : limbs (num zs).toNat = zs := by
  induction zs with
  | nil => simp [num, limbs_zero]
  | cons z zs ih =>
    have hz := h.head
    have hn := num_nonneg h.tail
    have h0 : (num (z :: zs)).toNat ≠ 0 := by
      cases zs with
      | nil => have := hl 0 rfl; simp [num] at this ⊢; omega
      | cons y ys =>
        have hy : limbs (num (y :: ys)).toNat = y :: ys := ih h.tail (fun m hm => by have := hl (m + 1) (by simpa using hm); simpa using this)
        intro h0
        have : (num (y :: ys)).toNat = 0 := by simp only [num] at h0 hn ⊢; omega
        rw [this, limbs_zero] at hy
        cases hy
    rw [limbs_pos h0]
    have e1 : (((num (z :: zs)).toNat % 4294967296 : Nat) : Int) = z := by simp only [num]; omega
    have e2 : (num (z :: zs)).toNat / 4294967296 = (num zs).toNat := by simp only [num]; omega
    rw [e1, e2, ih h.tail]
    intro m hm
    have := hl (m + 1) (by simp [hm])
    simpa using this

theorem num_append (a b : List Int) : num (a ++ b) = num a + 4294967296 ^ a.length * num b := by
  induction a with
  | nil => simp [num]
  | cons z zs ih =>
    simp only [List.cons_append, num, ih, List.length_cons]
    rw [Int.pow_succ, Int.mul_add, Int.mul_comm (4294967296 ^ zs.length) 4294967296, Int.mul_assoc]
    omega

theorem num_replicate (n : Nat) : num (List.replicate n 0) = 0 := by
  induction n with
  | zero => simp [num]
  | succ n ih => simp [List.replicate_succ, num, ih]

theorem num_lt {zs : List Int} (h : Wf zs) : num zs < 4294967296 ^ zs.length := by
  induction zs with
  | nil => simp [num]
  | cons z zs ih =>
    have := ih h.tail
    have hz := h.head
    simp only [num, List.length_cons, Int.pow_succ]
    omega

theorem pow_pos' (n : Nat) : (0 : Int) < 4294967296 ^ n := by
  induction n with
  | zero => simp
  | succ n ih => rw [Int.pow_succ]; omega

/-- how many limbs are left without the leading zeros -/
def tlen (zs : List Int) : Nat → Nat
  | 0 => 0
  | n + 1 => if zs.getD n 0 = 0 then tlen zs n else n + 1

theorem tlen_le (zs : List Int) (n : Nat) : tlen zs n ≤ n := by
  induction n with
  | zero => simp [tlen]
  | succ n ih => unfold tlen; split <;> omega

theorem take_succ_getD (zs : List Int) (k : Nat) (h : k < zs.length) : zs.take (k + 1) = zs.take k ++ [zs.getD k 0] := by
  rw [List.take_succ_eq_append_getElem h, getD_at h]

theorem num_take_succ (zs : List Int) (k : Nat) (h : k < zs.length) : num (zs.take (k + 1)) = num (zs.take k) + 4294967296 ^ k * zs.getD k 0 := by
  rw [take_succ_getD zs k h, num_append]
  simp [num, List.length_take, Nat.min_eq_left (Nat.le_of_lt h)]

theorem take_tlen {zs : List Int} (h : Wf zs) (n : Nat) (hn : n ≤ zs.length) : zs.take (tlen zs n) = limbs (num (zs.take n)).toNat := by
  induction n with
  | zero => simp [tlen, num, limbs_zero]
  | succ n ih =>
    unfold tlen
    by_cases h0 : zs.getD n 0 = 0
    · rw [if_pos h0, ih (by omega), num_take_succ zs n (by omega), h0]
      simp
    · rw [if_neg h0, limbs_num (h.take _)]
      intro m hm
      simp only [List.length_take] at hm
      obtain rfl : m = n := by omega
      rw [take_succ_getD zs m (by omega)]
      simpa [List.getD, List.length_take, Nat.min_eq_left (show m ≤ zs.length by omega)] using h0

theorem tlen_eq {zs : List Int} (h : Wf zs) : (limbs (num zs).toNat).length = tlen zs zs.length := by
  have := take_tlen h zs.length (Nat.le_refl _)
  rw [List.take_length] at this
  rw [← this, List.length_take, Nat.min_eq_left (tlen_le _ _)]

/-- shorter limbs, smaller number -/
theorem limbs_len_le (n k : Nat) : (limbs n).length ≤ k ↔ n < 4294967296 ^ k := by
  induction k generalizing n with
  | zero =>
    by_cases h : n = 0
    · subst h; simp [limbs_zero]
    · rw [limbs_pos h]; simp; omega
  | succ k ih =>
    by_cases h : n = 0
    · subst h; simp [limbs_zero]; exact Nat.pos_of_ne_zero (by simp)
    · rw [limbs_pos h, List.length_cons, Nat.succ_le_succ_iff, ih, Nat.pow_succ]
      omega

theorem lt_of_len_lt {a b : Nat} (h : (limbs a).length < (limbs b).length) : a < b := by
  have h1 := (limbs_len_le a (limbs a).length).1 (Nat.le_refl _)
  have h2 : ¬ b < 4294967296 ^ (limbs a).length := fun h3 => by have := (limbs_len_le b _).2 h3; omega
  omega

theorem limbs_lt (a : Nat) : (a : Int) < 4294967296 ^ (limbs a).length := by
  have := num_lt (Wf.limbs a)
  rwa [num_limbs] at this

theorem limbs_mono {a b : Nat} (h : a ≤ b) : (limbs a).length ≤ (limbs b).length := by
  rw [limbs_len_le]
  have := (limbs_len_le b (limbs b).length).1 (Nat.le_refl _)
  omega

/-- the highest limb in which they differ decides -/
theorem num_lt_of_limb {a b : List Int} (ha : Wf a) (hb : Wf b) (hl : a.length = b.length) (i : Nat) (hi : i < a.length)
    (hs : a.drop (i + 1) = b.drop (i + 1)) (h : a.getD i 0 < b.getD i 0) : num a < num b := by
  have ea : num a = num (a.take (i + 1)) + 4294967296 ^ (i + 1) * num (a.drop (i + 1)) := by
    have := num_append (a.take (i + 1)) (a.drop (i + 1))
    rw [List.take_append_drop] at this
    rw [this, List.length_take, Nat.min_eq_left (by omega)]
  have eb : num b = num (b.take (i + 1)) + 4294967296 ^ (i + 1) * num (b.drop (i + 1)) := by
    have := num_append (b.take (i + 1)) (b.drop (i + 1))
    rw [List.take_append_drop] at this
    rw [this, List.length_take, Nat.min_eq_left (by omega)]
  rw [ea, eb, hs, num_take_succ a i hi, num_take_succ b i (by omega)]
  have h1 := num_lt (ha.take i)
  rw [List.length_take, Nat.min_eq_left (by omega)] at h1
  have h2 := num_nonneg (hb.take i)
  have h3 : (4294967296 ^ i : Int) * a.getD i 0 + 4294967296 ^ i ≤ 4294967296 ^ i * b.getD i 0 := by
    have := Int.mul_le_mul_of_nonneg_left (show a.getD i 0 + 1 ≤ b.getD i 0 by omega) (Int.le_of_lt (pow_pos' i))
    rw [Int.mul_add, Int.mul_one] at this
    exact this
  omega

/-- -1, 0 or 1 -/
def sgn3 (x y : Int) : Int := if x < y then -1 else if y < x then 1 else 0

theorem sgn3_lens {a b : Nat} (h : (limbs a).length ≠ (limbs b).length) : sgn3 ((limbs a).length : Int) ((limbs b).length : Int) = sgn3 a b := by
  unfold sgn3
  rcases Nat.lt_or_gt_of_ne h with h1 | h1
  · have := lt_of_len_lt h1
    rw [if_pos (by omega), if_pos (by omega)]
  · have := lt_of_len_lt h1
    rw [if_neg (by omega), if_pos (by omega), if_neg (by omega), if_pos (by omega)]

theorem sgn3_limb {a b : Nat} (hl : (limbs a).length = (limbs b).length) (i : Nat) (hi : i < (limbs a).length)
    (hs : (limbs a).drop (i + 1) = (limbs b).drop (i + 1)) (h : (limbs a).getD i 0 ≠ (limbs b).getD i 0) : sgn3 ((limbs a).getD i 0) ((limbs b).getD i 0) = sgn3 a b := by
  unfold sgn3
  rcases Int.lt_or_gt_of_ne h with h1 | h1
  · have := num_lt_of_limb (Wf.limbs a) (Wf.limbs b) hl i hi hs h1
    rw [num_limbs, num_limbs] at this
    rw [if_pos h1, if_pos this]
  · have := num_lt_of_limb (Wf.limbs b) (Wf.limbs a) hl.symm i (by omega) hs.symm h1
    rw [num_limbs, num_limbs] at this
    rw [if_neg (by omega), if_pos h1, if_neg (by omega), if_pos this]

theorem drop_eq_cons {zs ys : List Int} {i : Nat} (h : i < zs.length) (h' : i < ys.length) (hd : zs.drop (i + 1) = ys.drop (i + 1)) (he : zs.getD i 0 = ys.getD i 0) : zs.drop i = ys.drop i := by
  rw [List.drop_eq_getElem_cons h, List.drop_eq_getElem_cons h', hd, ← getD_at h, ← getD_at h', he]

theorem getD_of_drop {zs ys : List Int} {k : Nat} (h : zs.drop k = ys.drop k) : zs.getD k 0 = ys.getD k 0 := by
  have := congrArg (fun l => l.getD 0 0) h
  simpa [List.getD] using this

theorem take_set_succ (zs : List Int) (k : Nat) (z : Int) (h : k < zs.length) : (zs.set k z).take (k + 1) = zs.take k ++ [z] := by
  have e : (zs.set k z).take k = zs.take k := by rw [List.take_set]; exact List.set_eq_of_length_le (by simp; omega)
  rw [take_succ_getD _ _ (by simpa using h), e]
  simp [List.getD, h]

theorem num_take_set (zs : List Int) (k : Nat) (z : Int) (h : k < zs.length) : num ((zs.set k z).take (k + 1)) = num (zs.take k) + 4294967296 ^ k * z := by
  rw [take_set_succ zs k z h, num_append]
  simp [num, List.length_take, Nat.min_eq_left (Nat.le_of_lt h)]

theorem num_set (L : List Int) (i : Nat) (v : Int) (h : i < L.length) : num (L.set i v) = num L + 4294967296 ^ i * (v - L.getD i 0) := by
  induction L generalizing i with
  | nil => simp at h
  | cons z zs ih =>
    cases i with
    | zero => simp only [List.set_cons_zero, num, List.getD_cons_zero]; omega
    | succ i =>
      have := ih i (by simpa using h)
      simp only [List.set_cons_succ, num, this, List.getD_cons_succ, Int.pow_succ]
      rw [Int.mul_add, Int.mul_comm (4294967296 ^ i) 4294967296, Int.mul_assoc]
      omega

theorem getD_set (L : List Int) (i j : Nat) (v : Int) (h : i < L.length) : (L.set i v).getD j 0 = if i = j then v else L.getD j 0 := by
  simp only [List.getD, List.getElem?_set]
  split <;> simp_all

/-- the first k limbs are done: N has been added to them, and c is carried -/
def Added (L Lk : List Int) (k : Nat) (c N : Int) : Prop :=
  Lk.length = L.length ∧ Wf Lk ∧ Lk.drop k = L.drop k ∧ num (Lk.take k) + 4294967296 ^ k * c = num (L.take k) + N

theorem Added.start {L : List Int} (h : Wf L) : Added L L 0 0 0 := ⟨rfl, h, rfl, by simp⟩

theorem Added.at {L xs : List Int} {x : Int} (h : Wf L) (k : Nat) : Added L L (k + 0) 0 (4294967296 ^ k * (x * num (xs.take 0))) := ⟨rfl, h, rfl, by simp [num]⟩

theorem Added.step {L Lk : List Int} {k : Nat} {c N : Int} (h : Added L Lk k c N) (hk : k < L.length) (y t : Int) (ht : t = c + (L.getD k 0 + y)) :
    Added L (Lk.set k (t % 4294967296)) (k + 1) (t / 4294967296) (N + 4294967296 ^ k * y) := by
  obtain ⟨h1, h2, h3, h4⟩ := h
  refine ⟨by simpa using h1, h2.set _ ⟨by omega, by omega⟩, ?_, ?_⟩
  · have : (Lk.drop k).drop 1 = (L.drop k).drop 1 := by rw [h3]
    rw [List.drop_drop, List.drop_drop] at this
    rw [← this, List.drop_set_of_lt (by omega)]
  · rw [num_take_set _ _ _ (by omega), num_take_succ L k hk, Int.pow_succ]
    have e : t % 4294967296 + 4294967296 * (t / 4294967296) = t := by omega
    have e2 : (4294967296 ^ k : Int) * (t % 4294967296) + 4294967296 ^ k * 4294967296 * (t / 4294967296) = 4294967296 ^ k * t := by
      rw [Int.mul_assoc, ← Int.mul_add, e]
    have e3 : (4294967296 ^ k : Int) * t = 4294967296 ^ k * c + (4294967296 ^ k * L.getD k 0 + 4294967296 ^ k * y) := by
      rw [ht, Int.mul_add, Int.mul_add]
    omega

theorem Added.done {L Lk : List Int} {k : Nat} {N : Int} (h : Added L Lk k 0 N) : num Lk = num L + N := by
  obtain ⟨h1, h2, h3, h4⟩ := h
  have a := num_append (Lk.take k) (Lk.drop k)
  have b := num_append (L.take k) (L.drop k)
  rw [List.take_append_drop] at a b
  rw [a, b, h3, List.length_take, List.length_take, h1]
  simp at h4
  rw [h4]
  omega

/-- a carry at the end would be too great -/
theorem Added.fits {L Lk : List Int} {k : Nat} {c N : Int} (h : Added L Lk k c N) (hk : k ≤ L.length) (hN : num L + N < 4294967296 ^ L.length) (hc : 0 < c) : k < L.length := by
  obtain ⟨h1, h2, h3, h4⟩ := h
  by_cases h5 : k < L.length
  · exact h5
  · obtain rfl : k = L.length := by omega
    rw [List.take_of_length_le (Nat.le_of_eq h1), List.take_length] at h4
    have h6 := num_nonneg h2
    have h7 : (4294967296 ^ L.length : Int) * 1 ≤ 4294967296 ^ L.length * c := Int.mul_le_mul_of_nonneg_left (by omega) (Int.le_of_lt (pow_pos' _))
    omega

/-- the first k limbs are done: N has been taken from them, and c is borrowed -/
def Taken (L Lk : List Int) (k : Nat) (c N : Int) : Prop :=
  Lk.length = L.length ∧ Wf Lk ∧ Lk.drop k = L.drop k ∧ num (Lk.take k) = num (L.take k) - N + 4294967296 ^ k * c

theorem Taken.start {L : List Int} (h : Wf L) : Taken L L 0 0 0 := ⟨rfl, h, rfl, by simp⟩

theorem Taken.step {L Lk : List Int} {k : Nat} {c N : Int} (h : Taken L Lk k c N) (hk : k < L.length) (y z c' : Int) (hz : 0 ≤ z ∧ z < 4294967296) (ht : z = L.getD k 0 - y - c + 4294967296 * c') :
    Taken L (Lk.set k z) (k + 1) c' (N + 4294967296 ^ k * y) := by
  obtain ⟨h1, h2, h3, h4⟩ := h
  refine ⟨by simpa using h1, h2.set _ hz, ?_, ?_⟩
  · have : (Lk.drop k).drop 1 = (L.drop k).drop 1 := by rw [h3]
    rw [List.drop_drop, List.drop_drop] at this
    rw [← this, List.drop_set_of_lt (by omega)]
  · rw [num_take_set _ _ _ (by omega), num_take_succ L k hk, Int.pow_succ]
    have e3 : (4294967296 ^ k : Int) * z = 4294967296 ^ k * L.getD k 0 - 4294967296 ^ k * y - 4294967296 ^ k * c + 4294967296 ^ k * 4294967296 * c' := by
      rw [ht, Int.mul_add, Int.mul_sub, Int.mul_sub, Int.mul_assoc]
    omega

theorem Taken.done {L Lk : List Int} {k : Nat} {N : Int} (h : Taken L Lk k 0 N) : num Lk = num L - N := by
  obtain ⟨h1, h2, h3, h4⟩ := h
  have a := num_append (Lk.take k) (Lk.drop k)
  have b := num_append (L.take k) (L.drop k)
  rw [List.take_append_drop] at a b
  rw [a, b, h3, List.length_take, List.length_take, h1]
  simp at h4
  rw [h4]
  omega

/-- a borrow at the end would be too great -/
theorem Taken.fits {L Lk : List Int} {k : Nat} {c N : Int} (h : Taken L Lk k c N) (hk : k ≤ L.length) (hN : N ≤ num L) (hc : 0 < c) : k < L.length := by
  obtain ⟨h1, h2, h3, h4⟩ := h
  by_cases h5 : k < L.length
  · exact h5
  · obtain rfl : k = L.length := by omega
    rw [List.take_of_length_le (Nat.le_of_eq h1), List.take_length] at h4
    have h6 := num_lt h2
    rw [h1] at h6
    have h7 : (4294967296 ^ L.length : Int) * 1 ≤ 4294967296 ^ L.length * c := Int.mul_le_mul_of_nonneg_left (by omega) (Int.le_of_lt (pow_pos' _))
    omega

theorem limbs_at (a i : Nat) : (limbs a).getD i 0 = ((a / 4294967296 ^ i % 4294967296 : Nat) : Int) := by
  induction i generalizing a with
  | zero =>
    by_cases h : a = 0
    · subst h; simp [limbs_zero]
    · rw [limbs_pos h]; simp
  | succ i ih =>
    by_cases h : a = 0
    · subst h; simp [limbs_zero]
    · rw [limbs_pos h]
      have := ih (a / 4294967296)
      rw [Nat.div_div_eq_div_mul, ← Nat.pow_succ'] at this
      simpa using this

end Go.Proofs.YtjohpdobnedilaaGreatDoor

/- What memory holds: slices of limbs that are read, blocks of limbs that are written. No function of the program stands here. -/
namespace Go.Proofs.YtjohpdobnedilaaGreatDoor
open Go Go.RowKit

/-- at address ao lie the limbs zs -/
def At (w : World) (ao : Option Addr) (zs : List Int) : Prop :=
  0 < zs.length → ∃ b off, ao = some ⟨b, off, none⟩ ∧ ∀ j, j < zs.length → w.cell? ⟨b, off + j, none⟩ = some (.int .u32 (zs.getD j 0))

/-- the slice with address ao, length n and capacity cap reads as the limbs zs -/
structure Sl (w : World) (ao : Option Addr) (n cap : Nat) (zs : List Int) : Prop where
  len : zs.length = n
  cap : n ≤ cap
  big : n ≤ 1099511627776
  wf : Wf zs
  cells : At w ao zs

/-- block g holds the limbs L, and can be written -/
def Blk (w : World) (g : Nat) (L : List Int) : Prop := w.heap[g]? = some (.cells (L.map (Value.int .u32)).toArray 64 (0, 0))

/-- only block g may have changed -/
structure Only (g : Nat) (w w' : World) : Prop where
  os : w'.os = w.os
  tape : w'.tape = w.tape
  output : w'.output = w.output
  size : w'.heap.size = w.heap.size
  block : ∀ k, k ≠ g → w'.heap[k]? = w.heap[k]?

theorem Only.refl (g : Nat) (w : World) : Only g w w := ⟨rfl, rfl, rfl, rfl, fun _ _ => rfl⟩
theorem Only.trans {g : Nat} {a b c : World} (h : Only g a b) (k : Only g b c) : Only g a c :=
  ⟨k.os.trans h.os, k.tape.trans h.tape, k.output.trans h.output, k.size.trans h.size, fun i hi => (k.block i hi).trans (h.block i hi)⟩
theorem Only.below {g B : Nat} {w w' : World} (h : Only g w w') (hB : B ≤ g) : Below B w w' :=
  ⟨h.os, h.tape, h.output, by rw [h.size]; exact Nat.le_refl _, fun k hk => h.block k (by omega)⟩
theorem Only.setCell {g : Nat} {a w : World} (h : Only g a w) (o : Nat) (u : Value) : Only g a (w.setCell ⟨g, o, none⟩ u) :=
  h.trans ⟨rfl, rfl, rfl, by simp [World.setCell], fun k hk => Below.heap_setCell _ _ _ _ (by simpa using hk)⟩
theorem Only.drew {g : Nat} {a w : World} (h : Only g a w) : Only g a w.drew := ⟨h.os, h.tape, h.output, h.size, h.block⟩
theorem Only.drewN {g : Nat} {a w : World} (h : Only g a w) (n : Nat) : Only g a (w.drewN n) := ⟨h.os, h.tape, h.output, h.size, h.block⟩

theorem lt_of_cell {w : World} {b o : Nat} {v : Value} (h : w.cell? ⟨b, o, none⟩ = some v) : b < w.heap.size := World.block_lt_of_cell? w _ h

theorem At.below {w w' : World} {ao : Option Addr} {zs : List Int} (h : At w ao zs) (hb : Below w.heap.size w w') : At w' ao zs := by
  intro h0
  obtain ⟨b, off, e, hc⟩ := h h0
  refine ⟨b, off, e, fun j hj => ?_⟩
  have := hc j hj
  rw [hb.cell (p := ⟨b, off + j, none⟩) (lt_of_cell this)]
  exact this

theorem Sl.below {w w' : World} {ao : Option Addr} {n cap : Nat} {zs : List Int} (h : Sl w ao n cap zs) (hb : Below w.heap.size w w') : Sl w' ao n cap zs :=
  ⟨h.len, h.cap, h.big, h.wf, h.cells.below hb⟩
theorem Sl.nil (w : World) : Sl w none 0 0 [] := ⟨rfl, Nat.le_refl _, by simp, Wf.nil, fun h => absurd h (by simp)⟩
theorem Sl.empty (w : World) (ao : Option Addr) (cap : Nat) : Sl w ao 0 cap [] := ⟨rfl, Nat.zero_le _, by simp, Wf.nil, fun h => absurd h (by simp)⟩

theorem take_getD (zs : List Int) (k j : Nat) (h : j < k) : (zs.take k).getD j 0 = zs.getD j 0 := by
  simp [List.getD, h]

theorem At.take {w : World} {ao : Option Addr} {zs : List Int} (h : At w ao zs) (k : Nat) : At w ao (zs.take k) := by
  intro h0
  rw [List.length_take] at h0
  obtain ⟨b, off, e, hc⟩ := h (by omega)
  refine ⟨b, off, e, fun j hj => ?_⟩
  rw [List.length_take] at hj
  rw [take_getD zs k j (by omega)]
  exact hc j (by omega)

theorem Blk.lt {w : World} {g : Nat} {L : List Int} (h : Blk w g L) : g < w.heap.size := (Array.getElem?_eq_some_iff.1 h).1

theorem Blk.cell {w : World} {g : Nat} {L : List Int} (h : Blk w g L) (j : Nat) (hj : j < L.length) : w.cell? ⟨g, j, none⟩ = some (.int .u32 (L.getD j 0)) := by
  rw [cell_of_row w g j _ _ _ h]
  simp [List.getD, hj]

theorem Blk.frozen {w : World} {g : Nat} {L : List Int} (h : Blk w g L) (j : Nat) : w.frozen? ⟨g, j, none⟩ = false := by
  unfold Blk at h
  simp [World.frozen?, h]

theorem Blk.kept {w w' : World} {g : Nat} {L : List Int} (h : Blk w g L) {B : Nat} (hb : Below B w w') (hg : g < B) : Blk w' g L := by
  unfold Blk; rw [hb.block g hg]; exact h
theorem Blk.below {w w' : World} {g : Nat} {L : List Int} (h : Blk w g L) (hb : Below w.heap.size w w') : Blk w' g L := h.kept hb h.lt
theorem Blk.only {w w' : World} {g k : Nat} {L : List Int} (h : Blk w g L) (hb : Only k w w') (hg : g ≠ k) : Blk w' g L := by
  unfold Blk; rw [hb.block g hg]; exact h
theorem Blk.drew {w : World} {g : Nat} {L : List Int} (h : Blk w g L) : Blk w.drew g L := h
theorem Blk.drewN {w : World} {g : Nat} {L : List Int} (h : Blk w g L) (n : Nat) : Blk (w.drewN n) g L := h

theorem Blk.set {w : World} {g : Nat} {L : List Int} (h : Blk w g L) (i : Nat) (x : Int) : Blk (w.setCell ⟨g, i, none⟩ (.int .u32 x)) g (L.set i x) := by
  unfold Blk at h ⊢
  simp only [World.setCell, Array.getElem?_modify, if_true, h, Option.map_some]
  congr 2
  apply Array.ext'
  simp [List.map_set]

theorem Blk.at {w : World} {g : Nat} {L : List Int} (h : Blk w g L) : At w (some ⟨g, 0, none⟩) L := fun _ => ⟨g, 0, rfl, fun j hj => by rw [Nat.zero_add]; exact h.cell j hj⟩

theorem Blk.sl {w : World} {g n cap : Nat} {L : List Int} (h : Blk w g L) (hw : Wf L) (hn : L.length = n) (hl : n ≤ 1099511627776) (hc : n ≤ cap) : Sl w (some ⟨g, 0, none⟩) n cap L :=
  ⟨hn, hc, hl, hw, h.at⟩

theorem Sl.take {w : World} {ao : Option Addr} {n cap : Nat} {zs : List Int} (h : Sl w ao n cap zs) (k : Nat) (hk : k ≤ n) : Sl w ao k cap (zs.take k) :=
  ⟨by rw [List.length_take, h.len, Nat.min_eq_left hk], by have := h.cap; omega, by have := h.big; omega, h.wf.take k, h.cells.take k⟩

theorem Sl.trim {w : World} {ao : Option Addr} {n cap : Nat} {zs : List Int} (h : Sl w ao n cap zs) : Sl w ao (tlen zs n) cap (limbs (num zs).toNat) := by
  have e := take_tlen h.wf n (by rw [h.len]; exact Nat.le_refl _)
  have e2 : zs.take n = zs := List.take_of_length_le (by rw [h.len]; exact Nat.le_refl _)
  rw [e2] at e
  rw [← e]
  exact h.take _ (tlen_le _ _)

/-- what lies elsewhere stays when block g is written -/
def Stay (g : Nat) (w : World) (ao : Option Addr) (zs : List Int) : Prop := ∀ w', Only g w w' → At w' ao zs

theorem At.stay {w : World} {ao : Option Addr} {zs : List Int} {B g : Nat} (h : At w ao zs) (hB : ∀ b off, ao = some ⟨b, off, none⟩ → 0 < zs.length → b < B) (hg : B ≤ g) : Stay g w ao zs := by
  intro w' ho h0
  obtain ⟨b, off, e, hc⟩ := h h0
  have hb := hB b off e h0
  refine ⟨b, off, e, fun j hj => ?_⟩
  rw [(ho.below hg).cell (p := ⟨b, off + j, none⟩) hb]
  exact hc j hj

/-- what was readable in w stays readable later, and while a newer block is written -/
theorem At.stay_below {w w1 : World} {ao : Option Addr} {zs : List Int} {g : Nat} (h : At w ao zs) (hb : Below w.heap.size w w1) (hg : w.heap.size ≤ g) : Stay g w1 ao zs := by
  refine At.stay (h.below hb) (B := w.heap.size) ?_ hg
  intro b off e h0
  obtain ⟨b', off', e', hc⟩ := h h0
  rw [e] at e'
  cases e'
  exact lt_of_cell (hc 0 h0)

/-- a new array of zeros -/
theorem blk_made {w : World} {n base g cap : Nat} (h : w.ownsRow base 64 1 (.slice (some ⟨g, 0, none⟩) n cap) n (madeCells (Value.int .u32 0).cells (n * 1)).toList) (hcap : cap = n) :
    Blk w g (List.replicate n 0) := by
  obtain ⟨_, h2⟩ := h
  rcases h2 with ⟨h0, _⟩ | ⟨g', cap', cur, hv, _, hh, _, _, hsz, htake⟩
  · cases h0
  · cases hv
    subst hcap
    unfold Blk
    rw [hh]
    rw [List.take_of_length_le (by simp [hsz])] at htake
    have : cur = (List.map (Value.int IntKind.u32) (List.replicate cap 0)).toArray := by
      apply Array.ext'
      rw [htake]
      simp [madeCells, Value.cells, Nat.mod_one, List.map_const']
    rw [this]

theorem Only.setRow {g : Nat} {a w : World} (h : Only g a w) (cs : Array Value) : Only g a (w.setRow g cs) :=
  h.trans ⟨rfl, rfl, rfl, by simp [World.setRow], fun k hk => setRow_other w g k cs (by omega)⟩

/-- copy into a block of the call's own -/
theorem wpList_copy_u32 {P : Program} {w : World} {ops : Array Oper} {rest : List Oper} {o : Oper} {a : Act} {Q : Exit → Act → World → Prop} (hgd : o.guard = none) (d s : Operand)
    (ho : o.op = .call { callee := .builtin .copy, args := #[d, s], argTypes := #[35, 35] }) (hu : P.underlying 35 = some (.slice 64)) (hsz : (P.info? 64).map (·.size) = some 1)
    (g off dLen dCap : Nat) (sp : Option Addr) (sLen sCap : Nat) (hd : a.eval d = .slice (some ⟨g, off, none⟩) dLen dCap) (hs : a.eval s = .slice sp sLen sCap)
    (L : List Int) (hb : Blk w g L) (zs : List Int) (hz : Sl w sp sLen sCap zs) (hle : sLen ≤ dLen) (hfit : off + sLen ≤ L.length)
    (h : ∀ w', Blk w' g (splice L off zs) → Only g w w' → wpList P ops Q rest (a.put o.dst (goInt sLen)) w') : wpList P ops Q (o :: rest) a w := by
  have hn : Nat.min sLen dLen = sLen := Nat.min_eq_left hle
  by_cases h0 : sLen = 0
  · refine wpList_copy_nothing hgd d s _ _ ho _ hu hsz _ _ _ _ _ _ hd hs (by rw [hn]; exact h0) ?_
    have hz0 : zs = [] := List.eq_nil_of_length_eq_zero (by rw [hz.len]; exact h0)
    have := h w (by subst hz0; simpa [splice] using hb) (Only.refl g w)
    rw [h0] at this
    exact this
  · obtain ⟨b, o', rfl, hc⟩ := hz.cells (by rw [hz.len]; omega)
    have hlen := hz.len
    refine wpList_copy_own hgd d s _ _ ho _ hu hsz g off dLen dCap _ sLen sCap hd hs _ _ hb (zs.map (Value.int .u32)) (by simp [hlen, hn]) ?_ (by simp [hlen]; omega) ?_ ?_
    · intro j v hj
      rw [List.getElem?_map] at hj
      by_cases hjl : j < zs.length
      · rw [List.getElem?_eq_getElem hjl] at hj
        simp only [Option.map_some, Option.some.injEq] at hj
        subst hj
        rw [Addr.add_lit, ← getD_at hjl]
        exact hc j hjl
      · rw [List.getElem?_eq_none (by omega)] at hj; cases hj
    · intro v hv
      rw [List.mem_map] at hv
      obtain ⟨x, _, rfl⟩ := hv
      rfl
    · have := h (w.setRow g ((List.map (Value.int .u32) L).toArray.toList.take off ++ ((zs.map (Value.int .u32)) ++ (List.map (Value.int .u32) L).toArray.toList.drop (off + (zs.map (Value.int .u32)).length))).toArray) ?_ ((Only.refl g w).setRow _)
      · simpa [hlen] using this
      · unfold Blk
        rw [setRow_heap w g _ _ _ _ hb]
        simp [splice, List.map_take, List.map_drop]

/-- a quiet call in a region that stands behind another one -/
theorem quiet_add_left {P : Program} {f : FuncId} {args : Array Value} {w : World} {a n : Nat} {v : Value}
    (h : Calls P f args (w.drewN (a + n)) fun e w' => e = .returned v ∧ w.drewN (a + n) = w') :
    Calls P f args (w.drewN (a + n)) fun e w'' => e = .returned v ∧ ∃ m, w'' = w.drewN (a + m) :=
  h.mono fun _ _ ⟨he, hm⟩ => ⟨he, n, hm.symm⟩
theorem quiet_left {P : Program} {f : FuncId} {args : Array Value} {w : World} {n : Nat} {v : Value}
    (h : Calls P f args (w.drewN n) fun e w' => e = .returned v ∧ w.drewN n = w') : Calls P f args (w.drewN n) fun e w'' => e = .returned v ∧ ∃ m, w'' = w.drewN m :=
  h.mono fun _ _ ⟨he, hm⟩ => ⟨he, n, hm.symm⟩

theorem bcell {W w1 : World} (hb : Below W.heap.size W w1) : (∀ b o, b < W.heap.size → w1.cell? ⟨b, o, none⟩ = W.cell? ⟨b, o, none⟩) ∧ (∀ b o, b < W.heap.size → w1.frozen? ⟨b, o, none⟩ = W.frozen? ⟨b, o, none⟩) :=
  ⟨fun b o h => hb.cell (p := ⟨b, o, none⟩) h, fun b o h => hb.frozen (p := ⟨b, o, none⟩) h⟩

/-- the sign and the limbs zs stand for x -/
def sgd (nb : Bool) (zs : List Int) : Int := if nb then - num zs else num zs

/-- an integer, normalized or not, that stands for x -/
structure Bg (w : World) (nb : Bool) (ao : Option Addr) (n cap : Nat) (x : Int) : Prop where
  ex : ∃ zs, Sl w ao n cap zs ∧ x = sgd nb zs
  small : n ≤ 1000000000

/-- the normalized integer x -/
structure Bn (w : World) (nb : Bool) (ao : Option Addr) (n cap : Nat) (x : Int) : Prop where
  neg : nb = decide (x < 0)
  sl : Sl w ao n cap (limbs x.natAbs)

theorem Bg.below {w w' : World} {nb : Bool} {ao : Option Addr} {n cap : Nat} {x : Int} (h : Bg w nb ao n cap x) (hb : Below w.heap.size w w') : Bg w' nb ao n cap x := by
  obtain ⟨⟨zs, h1, h2⟩, h3⟩ := h
  exact ⟨⟨zs, h1.below hb, h2⟩, h3⟩
theorem Bn.below {w w' : World} {nb : Bool} {ao : Option Addr} {n cap : Nat} {x : Int} (h : Bn w nb ao n cap x) (hb : Below w.heap.size w w') : Bn w' nb ao n cap x :=
  ⟨h.neg, h.sl.below hb⟩

theorem num_zero_iff {zs : List Int} (h : Wf zs) : num zs = 0 ↔ (limbs (num zs).toNat).length = 0 := by
  have hn := num_nonneg h
  constructor
  · intro h0; rw [h0]; simp [limbs_zero]
  · intro h0
    have := List.eq_nil_of_length_eq_zero h0
    have h1 := congrArg num this
    rw [num_limbs] at h1
    simp [num] at h1
    omega

theorem sgd_natAbs {nb : Bool} {zs : List Int} (h : Wf zs) : (sgd nb zs).natAbs = (num zs).toNat := by
  have hn := num_nonneg h
  unfold sgd
  split <;> omega

theorem sgd_neg {nb : Bool} {zs : List Int} {k : Nat} (h : Wf zs) (hk : (limbs (num zs).toNat).length = k) : (nb && decide (0 < k)) = decide (sgd nb zs < 0) := by
  have hn := num_nonneg h
  have h0 := num_zero_iff h
  rw [hk] at h0
  unfold sgd
  cases nb
  · simp; omega
  · simp only [Bool.true_and, if_true]
    congr 1
    simp only [eq_iff_iff]
    constructor
    · intro h1
      have : ¬ num zs = 0 := fun h2 => by have := h0.1 h2; omega
      omega
    · intro h1
      by_cases h2 : k = 0
      · have := h0.2 h2; omega
      · omega

/-- a sign and the limbs of a number: the number with this sign -/
theorem bn_of {w : World} {nb nr : Bool} {ro : Option Addr} {k cr a : Nat} {x : Int} (hs : Sl w ro k cr (limbs a)) (hnr : nr = (nb && decide (0 < k))) (hx : x = if nb then - (a : Int) else a) : Bn w nr ro k cr x := by
  have e : x.natAbs = a := by rw [hx]; split <;> omega
  refine ⟨?_, by rw [e]; exact hs⟩
  have hl := hs.len
  have h0 : a = 0 ↔ k = 0 := by
    rw [← hl]
    constructor
    · rintro rfl; simp [limbs_zero]
    · intro h; exact limbs_inj (by rw [limbs_zero]; exact List.eq_nil_of_length_eq_zero h)
  rw [hnr, hx]
  cases nb
  · simp <;> omega
  · simp <;> omega

theorem Bn.bg {w : World} {nb : Bool} {ao : Option Addr} {n cap : Nat} {x : Int} (h : Bn w nb ao n cap x) (hs : n ≤ 1000000000) : Bg w nb ao n cap x := by
  refine ⟨⟨_, h.sl, ?_⟩, hs⟩
  unfold sgd
  rw [num_limbs, h.neg]
  by_cases hx : x < 0
  · simp [hx] <;> omega
  · simp [hx] <;> omega

/-- block g holds the integer with this sign and these limbs, in a block of the call's own -/
def Box (W : World) (g : Nat) (nb : Bool) (ao : Option Addr) (n cap : Nat) : Prop := W.heap[g]? = some (.cells #[.bool nb, .slice ao n cap] 37 (0, 0))

theorem Box.c0 {W : World} {g : Nat} {nb : Bool} {ao : Option Addr} {n cap : Nat} (h : Box W g nb ao n cap) : W.cell? ⟨g, 0, none⟩ = some (.bool nb) := by
  rw [cell_of_row W g 0 _ _ _ h]; rfl
theorem Box.c1 {W : World} {g : Nat} {nb : Bool} {ao : Option Addr} {n cap : Nat} (h : Box W g nb ao n cap) : W.cell? ⟨g, 1, none⟩ = some (.slice ao n cap) := by
  rw [cell_of_row W g 1 _ _ _ h]; rfl
theorem Box.f {W : World} {g : Nat} {nb : Bool} {ao : Option Addr} {n cap : Nat} (h : Box W g nb ao n cap) (o : Nat) : W.frozen? ⟨g, o, none⟩ = false := by
  unfold Box at h; simp [World.frozen?, h]
theorem Box.new (w : World) (nb : Bool) (ao : Option Addr) (n cap : Nat) : Box (w.alloc (.cells #[.bool nb, .slice ao n cap] 37)) w.heap.size nb ao n cap := heap_alloc_new w _
theorem Box.kept {w w' : World} {B g : Nat} {nb : Bool} {ao : Option Addr} {n cap : Nat} (h : Box w g nb ao n cap) (hb : Below B w w') (hg : g < B) : Box w' g nb ao n cap := by
  unfold Box; rw [hb.block g hg]; exact h
theorem Box.lt {w : World} {g : Nat} {nb : Bool} {ao : Option Addr} {n cap : Nat} (h : Box w g nb ao n cap) : g < w.heap.size := lt_of_cell h.c0
theorem Box.below {w w' : World} {g : Nat} {nb : Bool} {ao : Option Addr} {n cap : Nat} (h : Box w g nb ao n cap) (hb : Below w.heap.size w w') : Box w' g nb ao n cap := h.kept hb h.lt
theorem Box.drew {w : World} {g : Nat} {nb : Bool} {ao : Option Addr} {n cap : Nat} (h : Box w g nb ao n cap) : Box w.drew g nb ao n cap := h
theorem Box.drewN {w : World} {g : Nat} {nb : Bool} {ao : Option Addr} {n cap : Nat} (h : Box w g nb ao n cap) (q : Nat) : Box (w.drewN q) g nb ao n cap := h
theorem Sl.drew {w : World} {ao : Option Addr} {n cap : Nat} {zs : List Int} (h : Sl w ao n cap zs) : Sl w.drew ao n cap zs := h.below (Below.refl _ _).drew
theorem Sl.drewN {w : World} {ao : Option Addr} {n cap : Nat} {zs : List Int} (h : Sl w ao n cap zs) (q : Nat) : Sl (w.drewN q) ao n cap zs := h.below (below_drewN (Below.refl _ _) q)

/-- limbs do not lie in a box -/
theorem At.only_box {w w' : World} {g : Nat} {nb : Bool} {ao ro : Option Addr} {n cap : Nat} {zs : List Int} (hx : Box w g nb ao n cap) (h : At w ro zs) (ho : Only g w w') : At w' ro zs := by
  intro h0
  obtain ⟨b, off, e, hc⟩ := h h0
  refine ⟨b, off, e, fun j hj => ?_⟩
  have hne : b ≠ g := by
    rintro rfl
    have := hc j hj
    rw [cell_of_row w b (off + j) _ _ _ hx] at this
    match off + j, this with
    | 0, this => simp at this
    | 1, this => simp at this
    | k + 2, this => simp at this
  rw [World.cell?_of_block (w := w) (ho.block b hne)]
  exact hc j hj
theorem Sl.only_box {w w' : World} {g : Nat} {nb : Bool} {ao ro : Option Addr} {n cap k cr : Nat} {zs : List Int} (h : Sl w ro k cr zs) (hx : Box w g nb ao n cap) (ho : Only g w w') : Sl w' ro k cr zs :=
  ⟨h.len, h.cap, h.big, h.wf, h.cells.only_box hx ho⟩
theorem only_set2 (w : World) (g : Nat) (u v : Value) : Only g w ((w.setCell ⟨g, 0, none⟩ u).setCell ⟨g, 1, none⟩ v) := ((Only.refl g w).setCell _ _).setCell _ _
theorem only_set1 (w : World) (g o : Nat) (u : Value) : Only g w (w.setCell ⟨g, o, none⟩ u) := (Only.refl g w).setCell _ _
theorem Box.only {w w' : World} {g k : Nat} {nb : Bool} {ao : Option Addr} {n cap : Nat} (h : Box w g nb ao n cap) (ho : Only k w w') (hne : g ≠ k) : Box w' g nb ao n cap := by
  unfold Box; rw [ho.block g hne]; exact h

theorem Box.stored {w : World} {g : Nat} {nb : Bool} {ao : Option Addr} {n cap : Nat} (h : Box w g nb ao n cap) (mb : Bool) (bo : Option Addr) (m cb : Nat) :
    Box ((w.setCell ⟨g, 0, none⟩ (.bool mb)).setCell ⟨g, 1, none⟩ (.slice bo m cb)) g mb bo m cb := by
  unfold Box at h ⊢
  simp [World.setCell, Array.getElem?_modify, h]
theorem Box.stored0 {w : World} {g : Nat} {nb : Bool} {ao : Option Addr} {n cap : Nat} (h : Box w g nb ao n cap) (mb : Bool) :
    Box (w.setCell ⟨g, 0, none⟩ (.bool mb)) g mb ao n cap := by
  unfold Box at h ⊢
  simp [World.setCell, Array.getElem?_modify, h]
theorem bnext {B : Nat} {w W W2 : World} (h : Below B w W) (hB : B ≤ W.heap.size) (h2 : Below W.heap.size W W2) : Below B w W2 ∧ B ≤ W2.heap.size := ⟨h.trans (h2.mono hB), by have := h2.size; omega⟩

/-- a world behind draws, under a name of its own -/
theorem drewN_world (W : World) (q : Nat) : ∃ W2, W.drewN q = W2 ∧ Below W.heap.size W W2 := ⟨_, rfl, below_drewN (Below.refl _ _) q⟩

/-- one argument boxed, and the place of the result -/
theorem boxes1 (w : World) (nb : Bool) (ao : Option Addr) (n cap : Nat) :
    ∃ W, W = (w.alloc (.cells #[.bool nb, .slice ao n cap] 37)).alloc (.cells #[.bool false, .slice none 0 0] 37) ∧ Below w.heap.size w W ∧ Box W w.heap.size nb ao n cap ∧ Box W (w.heap.size + 1) false none 0 0 ∧ w.heap.size + 2 ≤ W.heap.size := by
  refine ⟨_, rfl, ((Below.refl _ w).alloc (Nat.le_refl _) _).alloc (by simp) _, ?_, ?_, by simp⟩
  · exact (Box.new w nb ao n cap).below ((Below.refl _ _).alloc (Nat.le_refl _) _)
  · have := Box.new (w.alloc (.cells #[.bool nb, .slice ao n cap] 37)) false none 0 0
    simpa using this

/-- two arguments boxed, and the place of the result -/
theorem boxes2 (w : World) (nb : Bool) (ao : Option Addr) (n cap : Nat) (mb : Bool) (bo : Option Addr) (m cb : Nat) :
    ∃ W, W = ((w.alloc (.cells #[.bool nb, .slice ao n cap] 37)).alloc (.cells #[.bool mb, .slice bo m cb] 37)).alloc (.cells #[.bool false, .slice none 0 0] 37) ∧ Below w.heap.size w W ∧
      Box W w.heap.size nb ao n cap ∧ Box W (w.heap.size + 1) mb bo m cb ∧ Box W (w.heap.size + 1 + 1) false none 0 0 ∧ w.heap.size + 3 ≤ W.heap.size := by
  refine ⟨_, rfl, (((Below.refl _ w).alloc (Nat.le_refl _) _).alloc (by simp) _).alloc (by simp; omega) _, ?_, ?_, ?_, by simp⟩
  · exact (Box.new w nb ao n cap).below (((Below.refl _ _).alloc (Nat.le_refl _) _).alloc (by simp) _)
  · have := (Box.new (w.alloc (.cells #[.bool nb, .slice ao n cap] 37)) mb bo m cb).below ((Below.refl _ _).alloc (Nat.le_refl _) (.cells #[.bool false, .slice none 0 0] 37))
    simpa using this
  · have := Box.new ((w.alloc (.cells #[.bool nb, .slice ao n cap] 37)).alloc (.cells #[.bool mb, .slice bo m cb] 37)) false none 0 0
    simpa using this

end Go.Proofs.YtjohpdobnedilaaGreatDoor

/- Plain facts on the sign of a comparison. No program stands here. -/
namespace Go.Proofs.YtjohpdobnedilaaGreatDoor

theorem sgn3_zero {x : Int} (h : sgn3 x 0 = 0) : x = 0 := by unfold sgn3 at h; split at h <;> (try split at h) <;> omega
theorem sgn3_nonneg {x : Int} (h : 0 ≤ x) : 0 ≤ sgn3 x 0 := by unfold sgn3; split <;> (try split) <;> omega
theorem sgn3_less {x y : Int} (h : x < y) : sgn3 x y = -1 := by unfold sgn3; rw [if_pos h]
end Go.Proofs.YtjohpdobnedilaaGreatDoor

/- What integer.trim does: it returns the same memory, cut before the leading zeros. -/
namespace Go.Proofs.YtjohpdobnedilaaGreatDoor
open Go.RowKit

set_option maxHeartbeats 400000 in
theorem trim_any (ao : Option Addr) (n cap : Nat) (zs : List Int) (w : World) (hl : zs.length = n) (hn : n ≤ 1099511627776) (hcap : n ≤ cap) (ha : At w ao zs) :
    Calls Tryz.prog 113 #[.slice ao n cap] w fun e w' => e = .returned (.slice ao (tlen zs n) cap) ∧ w = w' := by
  have HL := Lib.hid hl; clear hl
  go_enter Tryz.func113, Tryz.ntmps113
  go_wp2
  go_loop [3] (fun i => ∃ k : Nat, k ≤ n ∧ i = .int .i64 k ∧ tlen zs n = tlen zs k) (fun i => (intOf i).toNat)
  case atStart => exact ⟨n, Nat.le_refl _, rfl, rfl⟩
  case round =>
    obtain ⟨k, hk, rfl, ht⟩ := hrel
    have HT := Lib.hid ht; clear ht
    by_cases h0 : 0 < k
    · obtain ⟨m, rfl⟩ : ∃ m, k = m + 1 := ⟨k - 1, by omega⟩
      obtain ⟨b, off, rfl, hc⟩ := ha (by rw [HL.out]; omega)
      have hcell := hc m (by rw [HL.out]; omega)
      clear hc ha
      go_wp2
      · have h1 : (zs[m]?.getD 0 == 0) = true := by assumption
        go_round
        case rel => exact ⟨m, by omega, by go_num, by rw [HT.out, tlen, if_pos (by simpa [List.getD] using h1)]⟩
        case measure => simp [intOf]
      · have h1 : (zs[m]?.getD 0 == 0) = false := by assumption
        go_ret
        refine ⟨?_, rfl⟩
        rw [HT.out, tlen, if_neg (by simpa [List.getD] using h1)]; rfl
    · obtain rfl : k = 0 := by omega
      clear ha
      go_wp2
      go_ret
      refine ⟨?_, rfl⟩
      rw [HT.out]; rfl

/-- trim gives the limbs of the number, in the same world -/
theorem trim_sl (ao : Option Addr) (n cap : Nat) (zs : List Int) (w : World) (h : Sl w ao n cap zs) :
    Calls Tryz.prog 113 #[.slice ao n cap] w fun e w' => ∃ k, e = .returned (.slice ao k cap) ∧ Sl w ao k cap (limbs (num zs).toNat) ∧ w = w' :=
  (trim_any ao n cap zs w h.len h.big h.cap h.cells).mono fun _ _ ⟨he, hw⟩ => ⟨_, he, h.trim, hw⟩

/-- the same length in every world -/
theorem trim_at (ao : Option Addr) (n cap : Nat) (zs : List Int) (w : World) (h : Sl w ao n cap zs) :
    ∃ k, k ≤ n ∧ Sl w ao k cap (limbs (num zs).toNat) ∧ ∀ W, Sl W ao n cap zs → Calls Tryz.prog 113 #[.slice ao n cap] W fun e w' => e = .returned (.slice ao k cap) ∧ W = w' :=
  ⟨_, tlen_le _ _, h.trim, fun W hW => trim_any ao n cap zs W hW.len hW.big hW.cap hW.cells⟩
end Go.Proofs.YtjohpdobnedilaaGreatDoor

/- What integer.clone does: it returns the limbs in new memory. -/
namespace Go.Proofs.YtjohpdobnedilaaGreatDoor
open Go.RowKit

theorem Tryz.infoU32 : (Tryz.prog.info? 64).map (fun i => (i.zero, i.size, i.bytes)) = some (some (.int .u32 0), 1, 4) := by kernel_rfl

theorem Tryz.sizeU32 : (Tryz.prog.info? 64).map (·.size) = some 1 := by kernel_rfl

/-- 'make([]uint32, n)': a new block of zeros -/
theorem wpList_make_u32 (w : World) {ops : Array Oper} {rest : List Oper} {o : Oper} {a : Act} {Q : Exit → Act → World → Prop}
    (hg : o.guard = none) (l c : Operand) (hop : o.op = Op.makeSlice 35 l c) (L : Int) (n : Nat)
    (hl : a.eval l = .int .i64 L) (hc : a.eval c = .int .i64 L) (hL : L = (n : Int)) (hn : n ≤ 1099511627776)
    (hK : ∀ w', Blk w' w.heap.size (List.replicate n 0) → Below w.heap.size w w' → wpList Tryz.prog ops Q rest (a.put o.dst (.slice (some ⟨w.heap.size, 0, none⟩) n n)) w') :
    wpList Tryz.prog ops Q (o :: rest) a w := by
  obtain ⟨i0, hi, hz0, hz1, hz2⟩ := info_parts Tryz.infoU32
  refine wpList_make_full w hg l c 35 hop w.heap.size 64 i0 (.int .u32 0) 1 Tryz.underlying35 hi hz0 hz1 _ _ _ _ n hl hc hL hL (by rw [hz2]; omega) (by unfold maxLen; omega) (Nat.le_refl _) ?_
  intro w' ho hgr
  exact hK w' (blk_made ho rfl) ((Below.refl _ w).grown hgr (Nat.le_refl _) (fun k hk => by cases hk))

set_option maxRecDepth 100000 in
set_option maxHeartbeats 400000 in
theorem clone_any (ao : Option Addr) (n cap : Nat) (zs : List Int) (w : World) (h : Sl w ao n cap zs) :
    Calls Tryz.prog 175 #[.slice ao n cap] w fun e w' => e = .returned (.slice (some ⟨w.heap.size, 0, none⟩) n n) ∧ Blk w' w.heap.size zs ∧ Below w.heap.size w w' := by
  have hn := h.big
  go_enter Tryz.func175, Tryz.ntmps175
  go_wp2_with (refine wpList_make_u32 _ rfl _ _ rfl _ n rfl rfl rfl hn ?_)
  intro w1 hb1 hw1
  go_wp2_with (with_reducible refine wpList_copy_u32 rfl (.tmp 7) (.tmp 8) rfl Tryz.underlying35 Tryz.sizeU32 _ 0 n n ao n cap rfl rfl _ hb1 zs (h.below hw1) (Nat.le_refl _) (by simp) ?_)
  intro w2 hb2 hw2
  go_wp2
  go_ret
  refine ⟨rfl, ?_, hw1.trans (hw2.below (Nat.le_refl _))⟩
  have := h.len
  simpa [splice, this] using hb2
end Go.Proofs.YtjohpdobnedilaaGreatDoor

/- What integer.signed does: it makes the integer with a magnitude; zero is never negative. -/
namespace Go.Proofs.YtjohpdobnedilaaGreatDoor
open Go.RowKit

set_option maxRecDepth 100000 in
set_option maxHeartbeats 400000 in
theorem signed_zero (nb : Bool) (ao : Option Addr) (cap : Nat) (w : World) :
    Calls Tryz.prog 114 #[.bool nb, .slice ao 0 cap] w fun e w' => e = .returned (.agg #[.bool false, .slice none 0 0]) ∧ Below w.heap.size w w' := by
  go_enter Tryz.func114, Tryz.ntmps114
  go_wp2
  exact bodyPost_ret (v := .agg #[.bool false, .slice none 0 0]) (by simp [results, Tryz.results114, go_sem]) rfl ⟨rfl, ((Below.refl _ _).alloc (Nat.le_refl _) _)⟩
set_option maxRecDepth 100000 in
set_option maxHeartbeats 400000 in
theorem signed_pos (nb : Bool) (ao : Option Addr) (n cap : Nat) (w : World) (h : 0 < n) :
    Calls Tryz.prog 114 #[.bool nb, .slice ao n cap] w fun e w' => e = .returned (.agg #[.bool nb, .slice ao n cap]) ∧ Below w.heap.size w w' := by
  have hn : ((n : Int) == 0) = false := beq_eq_false_iff_ne.2 (by omega)
  go_enter Tryz.func114, Tryz.ntmps114
  go_wp2
  exact bodyPost_ret (v := .agg #[.bool nb, .slice ao n cap]) (by simp [results, Tryz.results114, go_sem]) rfl ⟨rfl, ((Below.refl _ _).alloc (Nat.le_refl _) _)⟩

/-- whatever the limbs: they stay, and zero is not negative -/
theorem signed_any (nb : Bool) (ao : Option Addr) (n cap : Nat) (zs : List Int) (w : World) (h : Sl w ao n cap zs) :
    Calls Tryz.prog 114 #[.bool nb, .slice ao n cap] w fun e w' => ∃ ao' cap', e = .returned (.agg #[.bool (nb && decide (0 < n)), .slice ao' n cap']) ∧ Sl w' ao' n cap' zs ∧ Below w.heap.size w w' := by
  by_cases h0 : 0 < n
  · refine (signed_pos nb ao n cap w h0).mono fun e w' ⟨he, hw⟩ => ⟨ao, cap, ?_, h.below hw, hw⟩
    rw [he]; simp [h0]
  · obtain rfl : n = 0 := by omega
    have hz : zs = [] := List.eq_nil_of_length_eq_zero h.len
    subst hz
    exact (signed_zero nb ao cap w).mono fun e w' ⟨he, hw⟩ => ⟨none, 0, by rw [he]; simp, Sl.nil w', hw⟩
end Go.Proofs.YtjohpdobnedilaaGreatDoor

/- A slice of limbs that a call builds by 'append', limb after limb. -/
namespace Go.Proofs.YtjohpdobnedilaaGreatDoor
open Go Go.RowKit

/-- the value v holds the limbs L in memory of the call's own, in blocks from B on -/
def Own (w : World) (B : Nat) (v : Value) (L : List Int) : Prop := w.ownsRow B 64 1 v L.length (L.map (Value.int .u32))

theorem Own.nil (w : World) (B : Nat) : Own w B (.slice none 0 0) [] := ⟨rfl, Or.inl ⟨rfl, rfl⟩⟩

theorem Own.sl {w : World} {B : Nat} {v : Value} {L : List Int} (h : Own w B v L) (hw : Wf L) (hn : L.length ≤ 1099511627776) : ∃ ao cap, v = .slice ao L.length cap ∧ Sl w ao L.length cap L := by
  have h' := h
  obtain ⟨h1, h2⟩ := h
  rcases h2 with ⟨hv, h0⟩ | ⟨g, cap, cur, hv, hb, hg, hc, hm, hs, ht⟩
  · have hL : L = [] := List.eq_nil_of_length_eq_zero h0
    subst hL
    exact ⟨none, 0, hv, Sl.nil w⟩
  · refine ⟨some ⟨g, 0, none⟩, cap, hv, rfl, hc, hn, hw, fun h0 => ⟨g, 0, rfl, fun j hj => ?_⟩⟩
    subst hv
    have := h'.cellAt j (by omega)
    rw [Nat.zero_add, this, List.getElem?_map, List.getElem?_eq_getElem hj, ← getD_at hj]
    rfl

theorem Own.mono {w : World} {B C : Nat} {v : Value} {L : List Int} (h : Own w B v L) (hC : C ≤ B) : Own w C v L :=
  ⟨h.1, h.2.imp id fun ⟨g, cap, cur, hv, hb, r⟩ => ⟨g, cap, cur, hv, Nat.le_trans hC hb, r⟩⟩

/-- 'append(out, x)' -/
theorem wpList_append_u32 (w0 : World) {ops : Array Oper} {rest : List Oper} {o : Oper} {a : Act} {Q : Exit → Act → World → Prop} (hgd : o.guard = none) (s x : Operand)
    (ho : o.op = .call { callee := .builtin .append, args := #[s, x], argTypes := #[35, 35] })
    (B : Nat) (v : Value) (L : List Int) (y : Int) (hs : a.eval s = v) (hx : a.eval x = .slice (some ⟨w0.heap.size, 0, none⟩) 1 1) (hown : Own w0 B v L) (hB : B ≤ w0.heap.size) (hL : L.length ≤ 1099511627776)
    (h : ∀ v' w', Own w' B v' (L ++ [y]) → Below B w0 w' → wpList Tryz.prog ops Q rest (a.put o.dst v') w') : wpList Tryz.prog ops Q (o :: rest) a (w0.alloc (.cells #[.int .u32 y] 64)) := by
  obtain ⟨i0, hi, hz0, hz1, hz2⟩ := info_parts Tryz.infoU32
  refine wpList_append_own _ hgd s x 35 ho B 64 i0 (.int .u32 0) 1 4 Tryz.underlying35 hi hz0 hz1 hz2 rfl (by decide) v L.length (L.map (Value.int .u32)) hs (World.ownsRow.alloc hown _) ⟨w0.heap.size, 0, none⟩ 1 1 [.int .u32 y] hx rfl ?_ ?_ ?_ ?_ ?_ ?_
  · intro j u hj
    have hn : (w0.alloc (.cells #[.int .u32 y] 64)).heap[w0.heap.size]? = some (.cells #[.int .u32 y] 64 (0, 0)) := heap_alloc_new w0 _
    rcases j with _ | j
    · rw [Addr.add_lit, Nat.zero_add, cell_of_row _ w0.heap.size 0 _ _ _ hn]; exact hj
    · simp at hj
  · intro u hu
    rw [List.mem_singleton] at hu
    subst hu
    rfl
  · unfold maxLen; omega
  · omega
  · simp; omega
  · intro v' w' hown' hg _
    refine h v' w' ?_ ?_
    · unfold Own
      rw [List.length_append, List.map_append]
      exact hown'
    · refine ((Below.refl B w0).alloc hB _).grown hg (by simp; omega) ?_
      intro k hk
      exact (hown.lt k hk).1
end Go.Proofs.YtjohpdobnedilaaGreatDoor

/- What integer.Sign does. -/
namespace Go.Proofs.YtjohpdobnedilaaGreatDoor
open Go.RowKit

theorem len_zero_iff {a k : Nat} (h : (limbs a).length = k) : k = 0 ↔ a = 0 := by
  subst h
  constructor
  · intro h; exact limbs_inj (by rw [limbs_zero]; exact List.eq_nil_of_length_eq_zero h)
  · rintro rfl; simp [limbs_zero]

set_option maxRecDepth 100000 in
set_option maxHeartbeats 1000000 in
theorem sign_any (nb : Bool) (ao : Option Addr) (n ca : Nat) (x : Int) (w : World) (h : Bg w nb ao n ca x) :
    Calls Tryz.prog 104 #[.agg #[.bool nb, .slice ao n ca]] w fun e w' => e = .returned (.int .i64 (sgn3 x 0)) ∧ Below w.heap.size w w' := by
  obtain ⟨⟨zs, hs, hx⟩, hsm⟩ := h
  have hx' := Lib.hid hx; clear hx
  obtain ⟨k, hk, hs1, ht⟩ := trim_at _ _ _ _ _ hs
  have hn0 := num_nonneg hs.wf
  have h0 := len_zero_iff hs1.len
  have HT := Lib.hid ht; clear ht
  have hsc := Lib.hid (Sl.below hs (((Below.refl w.heap.size w).alloc (Nat.le_refl _) (.cells #[.bool nb, .slice ao n ca] 37))))
  clear hs1
  by_cases hz : k = 0
  · have hx0 : sgn3 x 0 = 0 := by
      have e := h0.1 hz
      have e2 : num zs = 0 := by omega
      rw [hx'.out]; simp [sgd, sgn3, e2]
    have HX := Lib.hid hx0; clear hx0 h0
    subst hz
    go_enter Tryz.func104, Tryz.ntmps104
    go_wp2_with fail
    refine (HT.out _ hsc.out).mono ?_
    rintro e w1 ⟨rfl, rfl⟩
    go_wp2
    go_ret
    exact ⟨by rw [HX.out]; rfl, (Below.refl _ w).alloc (Nat.le_refl _) _⟩
  · have hpos : 0 < num zs := by
      have : (num zs).toNat ≠ 0 := fun e => hz (h0.2 e)
      omega
    have hk0 : ((k : Int) == 0) = false := beq_eq_false_iff_ne.2 (by omega)
    clear h0 hz
    cases nb with
    | true =>
      have hx0 : sgn3 x 0 = -1 := by rw [hx'.out]; simp [sgd, sgn3]; omega
      have HX := Lib.hid hx0; clear hx0 hpos hn0
      go_enter Tryz.func104, Tryz.ntmps104
      go_wp2_with fail
      refine (HT.out _ hsc.out).mono ?_
      rintro e w1 ⟨rfl, rfl⟩
      go_wp2
      go_ret
      exact ⟨by rw [HX.out]; rfl, (Below.refl _ w).alloc (Nat.le_refl _) _⟩
    | false =>
      have hx0 : sgn3 x 0 = 1 := by rw [hx'.out]; simp [sgd, sgn3]; omega
      have HX := Lib.hid hx0; clear hx0 hpos hn0
      go_enter Tryz.func104, Tryz.ntmps104
      go_wp2_with fail
      refine (HT.out _ hsc.out).mono ?_
      rintro e w1 ⟨rfl, rfl⟩
      go_wp2
      go_ret
      exact ⟨by rw [HX.out]; rfl, (Below.refl _ w).alloc (Nat.le_refl _) _⟩
end Go.Proofs.YtjohpdobnedilaaGreatDoor
