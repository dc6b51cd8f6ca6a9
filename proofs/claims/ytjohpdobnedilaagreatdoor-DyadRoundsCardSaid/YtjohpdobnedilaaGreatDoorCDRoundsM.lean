/- The program's rounding of a number with a sticky bit is the reference's rounding of a number with a tail, as plain facts. No program stands here. -/
import Derived.Test.YtjohpdobnedilaaGreatDoorCRefCut
import Derived.Test.YtjohpdobnedilaaGreatDoorCDQuoMath
import Derived.Test.YtjohpdobnedilaaGreatDoorCDRootMath
namespace Go.Proofs.YtjohpdobnedilaaGreatDoor
open Go.RowKit

theorem fup_tail {neg : Bool} {mode : Int} {j D r s : Nat} {t : Bool} (K : Nat) (hr : s < 2 ^ j) : fup neg mode K r (2 ^ (D + 1)) (t || decide (s ≠ 0)) = fup neg mode K (2 ^ j * r + s) (2 ^ (j + (D + 1))) t := by
  have hp : 0 < 2 ^ j := Nat.pow_pos (by omega)
  have a1 : (2 ^ j * r + s ≠ 0) ↔ (r ≠ 0 ∨ s ≠ 0) := by
    constructor
    · intro h
      rcases Nat.eq_zero_or_pos r with h4 | h4
      · subst h4; right; simpa using h
      · left; omega
    · rintro (h | h)
      · have := Nat.mul_pos hp (Nat.pos_of_ne_zero h); omega
      · omega
  have hH : 2 ^ (j + (D + 1)) = 2 ^ j * (2 * 2 ^ D) := by rw [Nat.pow_add, Nat.pow_succ, Nat.mul_comm (2 ^ D) 2]
  have hh : 2 ^ (D + 1) = 2 * 2 ^ D := by rw [Nat.pow_succ, Nat.mul_comm]
  rw [hH, hh]
  generalize 2 ^ D = H
  have m1 : 2 ^ j * (2 * H) = 2 * (2 ^ j * H) := by rw [← Nat.mul_assoc, Nat.mul_comm (2 ^ j) 2, Nat.mul_assoc]
  rw [m1]
  -- three cases: below the middle, in it, above it
  rcases Nat.lt_trichotomy r H with h4 | h4 | h4
  · have h5 : 2 ^ j * r + 2 ^ j ≤ 2 ^ j * H := by
      have := Nat.mul_le_mul_left (2 ^ j) (show r + 1 ≤ H from h4)
      rwa [Nat.mul_add, Nat.mul_one] at this
    have b1 : ¬ 2 * H < 2 * r := by omega
    have b2 : ¬ 2 * H = 2 * r := by omega
    have b3 : ¬ 2 * (2 ^ j * H) < 2 * (2 ^ j * r + s) := by omega
    have b4 : ¬ 2 * (2 ^ j * H) = 2 * (2 ^ j * r + s) := by omega
    unfold fup
    simp only [b1, b2, b3, b4, decide_false, Bool.false_and, Bool.or_false]
    have : (decide (r ≠ 0) || (t || decide (s ≠ 0))) = (decide (2 ^ j * r + s ≠ 0) || t) := by
      rw [decide_eq_decide.2 a1, Bool.decide_or]
      cases decide (r ≠ 0) <;> cases t <;> cases decide (s ≠ 0) <;> rfl
    rw [this]
  · subst h4
    have c1 : ¬ 2 * r < 2 * r := by omega
    have c2 : (2 * (2 ^ j * r) < 2 * (2 ^ j * r + s)) = (s ≠ 0) := by apply propext; omega
    have c3 : (2 * (2 ^ j * r) = 2 * (2 ^ j * r + s)) = (s = 0) := by apply propext; omega
    unfold fup
    simp only [c1, c2, c3, decide_false, decide_true, Bool.true_and, Bool.false_or]
    have : (decide (r ≠ 0) || (t || decide (s ≠ 0))) = (decide (2 ^ j * r + s ≠ 0) || t) := by
      rw [decide_eq_decide.2 a1, Bool.decide_or]
      cases decide (r ≠ 0) <;> cases t <;> cases decide (s ≠ 0) <;> rfl
    rw [this]
    by_cases hs : s = 0
    · subst hs; simp
    · simp [hs]
  · have h5 : 2 ^ j * H + 2 ^ j ≤ 2 ^ j * r := by
      have := Nat.mul_le_mul_left (2 ^ j) (show H + 1 ≤ r from h4)
      rwa [Nat.mul_add, Nat.mul_one] at this
    have b1 : 2 * H < 2 * r := by omega
    have b3 : 2 * (2 ^ j * H) < 2 * (2 ^ j * r + s) := by omega
    unfold fup
    simp only [b1, b3, decide_true, Bool.true_or]
    have : (decide (r ≠ 0) || (t || decide (s ≠ 0))) = (decide (2 ^ j * r + s ≠ 0) || t) := by
      rw [decide_eq_decide.2 a1, Bool.decide_or]
      cases decide (r ≠ 0) <;> cases t <;> cases decide (s ≠ 0) <;> rfl
    rw [this]

theorem cut_tail {neg : Bool} {N j n : Nat} {t : Bool} {mode : Int} (h : j < n) : cutV neg (N / 2 ^ j) (n - j) (t || decide (N % 2 ^ j ≠ 0)) mode = cutV neg N n t mode := by
  obtain ⟨D, rfl⟩ : ∃ D, n = j + (D + 1) := ⟨n - j - 1, by omega⟩
  have hm : N % 2 ^ (j + (D + 1)) = 2 ^ j * (N / 2 ^ j % 2 ^ (D + 1)) + N % 2 ^ j := by
    rw [Nat.pow_add, Nat.mod_mul]; omega
  unfold cutV
  rw [show j + (D + 1) - j = D + 1 by omega, Nat.div_div_eq_div_mul, ← Nat.pow_add, fup_tail _ (Nat.mod_lt _ (Nat.pow_pos (by omega))), ← hm]

/-- a magnitude with a tail, rounded to p bits -/
def rdV (neg : Bool) (N : Nat) (e : Int) (t : Bool) (p : Nat) (mode : Int) : Dy := dmk (if neg then -((cutV neg N (blen N - p) t mode : Nat) : Int) else ((cutV neg N (blen N - p) t mode : Nat) : Int)) (e + ((blen N - p : Nat) : Int))

theorem blen_div {N j : Nat} : blen (N / 2 ^ j) = blen N - j := by
  by_cases h : 2 ^ j ≤ N
  · obtain ⟨h1, h2⟩ := log2_down h
    have hp : 0 < 2 ^ j := Nat.pow_pos (by omega)
    have hn : N ≠ 0 := by omega
    have hd : N / 2 ^ j ≠ 0 := by have := Nat.div_pos h hp; omega
    unfold blen
    rw [if_neg hn, if_neg hd, h1]; omega
  · have hlt : N < 2 ^ j := by omega
    rw [Nat.div_eq_of_lt hlt]
    have := blen_le_of_lt hlt
    rw [show blen 0 = 0 from rfl]; omega
theorem blen_gt {N p : Nat} (h : 2 ^ p ≤ N) : p < blen N := by
  rcases Nat.lt_or_ge p (blen N) with h1 | h1
  · exact h1
  · have h2 := blen_lt N
    have h3 : 2 ^ blen N ≤ 2 ^ p := Nat.pow_le_pow_right (by omega) h1
    omega

theorem rd_tail {neg : Bool} {N j p : Nat} {e : Int} {t : Bool} {mode : Int} (h : 2 ^ p ≤ N / 2 ^ j) : rdV neg (N / 2 ^ j) (e + j) (t || decide (N % 2 ^ j ≠ 0)) p mode = rdV neg N e t p mode := by
  have h1 := blen_gt h
  rw [blen_div] at h1
  unfold rdV
  rw [blen_div, show blen N - j - p = (blen N - p) - j by omega, cut_tail (by omega)]
  congr 1
  omega

theorem neg_floor_parts {H Q b r : Nat} {x : Int} (hH : 0 < H) (hx : x = -((2 * (H * Q) + H * b + r : Nat) : Int)) (hb : b < 2) (hr : r < H) (h0 : r + H * b ≠ 0) :
    x / (H : Int) / 2 = -(Q : Int) - 1 ∧ ((x / (H : Int)).natAbs % 2 = 1 ↔ b = 0 ∨ r = 0) := by
  have e1 : ∀ c : Int, (H : Int) * (-(2 * (Q : Int) + c)) = -(2 * ((H * Q : Nat) : Int) + H * c) := fun c => by
    rw [Int.mul_neg, Int.mul_add, Int.natCast_mul, Int.mul_left_comm]
  generalize H * Q = P at *
  have f1 := e1 1
  have f2 := e1 2
  clear e1
  rcases (show b = 0 ∨ b = 1 by omega) with rfl | rfl
  · have hd1 : x / (H : Int) = -(2 * (Q : Int) + 1) :=
      ((Int.ediv_emod_unique (by omega)).2 ⟨by rw [f1]; omega, by omega, by omega⟩ : x / (H : Int) = -(2 * (Q : Int) + 1) ∧ x % (H : Int) = (H : Int) - r).1
    rw [hd1]
    exact ⟨by omega, by omega⟩
  · by_cases hr0 : r = 0
    · have hd1 : x / (H : Int) = -(2 * (Q : Int) + 1) :=
        ((Int.ediv_emod_unique (by omega)).2 ⟨by rw [f1]; omega, by omega, by omega⟩ : x / (H : Int) = -(2 * (Q : Int) + 1) ∧ x % (H : Int) = 0).1
      rw [hd1]
      exact ⟨by omega, by omega⟩
    · have hd1 : x / (H : Int) = -(2 * (Q : Int) + 2) :=
        ((Int.ediv_emod_unique (by omega)).2 ⟨by rw [f2]; omega, by omega, by omega⟩ : x / (H : Int) = -(2 * (Q : Int) + 2) ∧ x % (H : Int) = (H : Int) - r).1
      rw [hd1]
      exact ⟨by omega, by omega⟩
theorem fup_mid {neg : Bool} {mode : Int} {H Q b r : Nat} (hb : b < 2) (hr : r < H) (h0 : r + H * b ≠ 0) :
    fup neg mode Q (r + H * b) (2 * H) false = (if mode = 1 then neg else if mode = 2 then !neg else if mode = 3 then false else decide (b = 1) && (!decide (r + H * b = H) || decide (Q % 2 = 1))) := by
  unfold fup
  rw [decide_eq_true h0]
  by_cases m1 : mode = 1
  · simp [m1]
  · by_cases m2 : mode = 2
    · simp [m2]
    · by_cases m3 : mode = 3
      · simp [m3]
      · rw [if_neg m1, if_neg m2, if_neg m3, if_neg m1, if_neg m2, if_neg m3]
        rcases (show b = 0 ∨ b = 1 by omega) with rfl | rfl
        · rw [decide_eq_false (show ¬ 2 * H < 2 * (r + H * 0) by omega), decide_eq_false (show ¬ 2 * H = 2 * (r + H * 0) by omega)]
          rfl
        · by_cases hr0 : r = 0
          · subst hr0
            rw [decide_eq_false (show ¬ 2 * H < 2 * (0 + H * 1) by omega), decide_eq_true (show 2 * H = 2 * (0 + H * 1) by omega), decide_eq_true (show 0 + H * 1 = H by omega)]
            rfl
          · rw [decide_eq_true (show 2 * H < 2 * (r + H * 1) by omega), decide_eq_false (show ¬ r + H * 1 = H by omega)]
            rfl

/-- the sign of a floor, against the magnitude's rounding -/
theorem drd_rd {x e : Int} {p : Nat} {mode : Int} (hx : x ≠ 0) : drd x e p mode = rdV (decide (x < 0)) x.natAbs e false p mode := by
  have hn : x.natAbs ≠ 0 := by omega
  obtain ⟨N, hN⟩ : ∃ N, x.natAbs = N := ⟨_, rfl⟩
  have htz := tzf_isTz N
  unfold drd rdV
  rw [hN] at hn ⊢
  obtain ⟨t, ht⟩ : ∃ t, tzf N = t := ⟨_, rfl⟩
  rw [ht] at htz ⊢
  have hxN : x = if decide (x < 0) then -(N : Int) else (N : Int) := by
    by_cases h : x < 0
    · rw [decide_eq_true h]; simp; omega
    · rw [decide_eq_false h]; simp; omega
  by_cases hfit : blen N ≤ p + t
  · rw [if_pos hfit]
    obtain ⟨n, hnn⟩ : ∃ n, blen N - p = n := ⟨_, rfl⟩
    rw [hnn]
    have hmod : N % 2 ^ n = 0 := by
      rcases htz with ⟨h, _⟩ | ⟨_, m, hm⟩
      · exact absurd h hn
      · rw [hm]
        have : t = n + (t - n) := by omega
        rw [this, Nat.pow_add, Nat.mul_assoc]
        exact Nat.mul_mod_right _ _
    rw [cut_none _ _ hmod]
    have hdv : N / 2 ^ n * 2 ^ n = N := by
      have := Nat.div_add_mod N (2 ^ n)
      rw [hmod, Nat.add_zero, Nat.mul_comm] at this
      exact this
    have hc : x = (if decide (x < 0) then -((N / 2 ^ n : Nat) : Int) else ((N / 2 ^ n : Nat) : Int)) * 2 ^ n := by
      have e1 : ((N / 2 ^ n : Nat) : Int) * 2 ^ n = (N : Int) := by
        rw [show ((2 : Int) ^ n) = ((2 ^ n : Nat) : Int) by rw [Int.natCast_pow]; rfl, ← Int.natCast_mul, hdv]
      conv => lhs; rw [hxN]
      cases decide (x < 0)
      · simp only [Bool.false_eq_true, if_false]; exact e1.symm
      · simp only [if_true]; rw [Int.neg_mul, e1]
    conv => lhs; rw [hc, dmk_shift]
  · rw [if_neg hfit]
    obtain ⟨k, hk⟩ : ∃ k, blen N - p - 1 = k := ⟨_, rfl⟩
    have hn1 : blen N - p = k + 1 := by omega
    rw [hn1]
    have hkt : t < k + 1 := by omega
    have hR : N % 2 ^ (k + 1) ≠ 0 := (htz.dvd hn (k + 1)).1 hkt
    have hp2 : 0 < 2 ^ k := Nat.pow_pos (by omega)
    have hpp : 2 ^ (k + 1) = 2 * 2 ^ k := by rw [Nat.pow_succ, Nat.mul_comm]
    have hdm := Nat.div_add_mod N (2 ^ (k + 1))
    have hml := Nat.mod_lt N (Nat.pow_pos (n := k + 1) (show 0 < 2 by omega))
    -- x / 2^k / 2 and the parity of x / 2^k by cases of the sign
    have tzk : tzf x.natAbs = k ↔ N % 2 ^ (k + 1) = 2 ^ k := by
      rw [hN, ht]
      constructor
      · intro h
        subst h
        rcases htz with ⟨h, _⟩ | ⟨_, m, hm⟩
        · exact absurd h hn
        · rw [hm, hpp, Nat.mul_comm 2 (2 ^ t), Nat.mul_mod_mul_left, show (2 * m + 1) % 2 = 1 by omega, Nat.mul_one]
      · intro h
        have h1 : N % 2 ^ k = 0 := by
          have h2 := Nat.mod_mod_of_dvd N (show 2 ^ k ∣ 2 ^ (k + 1) from ⟨2, by rw [Nat.pow_succ]⟩)
          rw [← h2, h, Nat.mod_self]
        have h3 : ¬ t < k := fun h4 => (htz.dvd hn k).1 h4 h1
        omega
    have hR2 : N % 2 ^ (k + 1) = N % 2 ^ k + 2 ^ k * (N / 2 ^ k % 2) := by rw [Nat.pow_succ, Nat.mod_mul]
    have hQ2 : N / 2 ^ (k + 1) = N / 2 ^ k / 2 := by rw [Nat.pow_succ, Nat.div_div_eq_div_mul]
    have hNA := Nat.div_add_mod N (2 ^ k)
    have hr := Nat.mod_lt N hp2
    simp only [Nat.add_sub_cancel]
    unfold cutV
    rw [hpp] at hml
    have hT : decide (tzf x.natAbs = k) = decide (N % 2 ^ (k + 1) = 2 ^ k) := decide_eq_decide.2 tzk
    unfold rup
    rw [hT]
    have hpI : ((2 ^ k : Nat) : Int) = (2 : Int) ^ k := by rw [Int.natCast_pow]; rfl
    rw [hQ2, hR2, hpp, ← hpI]
    rw [hR2] at hR
    rw [← hpp, hR2, hpp] at hml
    clear tzk hT hdm hR2 hQ2 hpp hpI
    generalize 2 ^ k = H at *
    generalize hA : N / H = A at *
    generalize N % H = r at *
    obtain ⟨Q, b, rfl, hb⟩ : ∃ Q b, A = 2 * Q + b ∧ b < 2 := ⟨A / 2, A % 2, by omega, by omega⟩
    have hA2 : (2 * Q + b) / 2 = Q := by omega
    have hAm : (2 * Q + b) % 2 = b := by omega
    rw [hA2, hAm]
    rw [hAm] at hR hml
    have hN2 : N = 2 * (H * Q) + H * b + r := by
      rw [← hNA, Nat.mul_add, Nat.mul_left_comm]
    rw [fup_mid hb hr hR]
    congr 1
    · by_cases hneg : x < 0
      · obtain ⟨hf1, hf2⟩ := neg_floor_parts (H := H) (Q := Q) (b := b) (r := r) (x := x) hp2 (by omega) hb hr hR
        have hdd : decide ((x / (H : Int)).natAbs % 2 = 1) = decide (b = 0 ∨ r = 0) := decide_eq_decide.2 hf2
        rw [hf1, decide_eq_true hneg, hdd, if_pos (show (true : Bool) = true from rfl) (t := -_)]
        have hpar : decide ((-(Q : Int) - 1).natAbs % 2 = 1) = !decide (Q % 2 = 1) := by
          by_cases h : Q % 2 = 1
          · rw [decide_eq_true h, decide_eq_false (by omega)]; rfl
          · rw [decide_eq_false h, decide_eq_true (by omega)]; rfl
        rw [hpar]
        have hkey : ∀ u v : Bool, u = !v → (-(Q : Int) - 1 + if u = true then 1 else 0) = -((Q + if v = true then 1 else 0 : Nat) : Int) := by
          intro u v h
          subst h
          cases v <;> simp <;> omega
        apply hkey
        by_cases m1 : mode = 1
        · simp [m1]
        · by_cases m2 : mode = 2
          · simp [m2]
          · by_cases m3 : mode = 3
            · simp [m3]
            · rw [if_neg m1, if_neg m2, if_neg m3, if_neg m1, if_neg m2, if_neg m3]
              rcases (show b = 0 ∨ b = 1 by omega) with rfl | rfl
              · rw [decide_eq_false (show ¬ r + H * 0 = H by omega)]
                simp
              · by_cases hr0 : r = 0
                · subst hr0
                  rw [decide_eq_true (show 0 + H * 1 = H by omega)]
                  simp
                · rw [decide_eq_false (show ¬ r + H * 1 = H by omega)]
                  simp [hr0]
      · have hx2 : x = (N : Int) := by omega
        have hd1 : x / (H : Int) = ((2 * Q + b : Nat) : Int) := by rw [hx2, ← Int.natCast_ediv, hA]
        have hd2 : x / (H : Int) / 2 = (Q : Int) := by rw [hd1]; omega
        rw [hd2, hd1, Int.natAbs_natCast, Int.natAbs_natCast, hAm, decide_eq_false hneg]
        have hkey : ∀ u v : Bool, u = v → ((Q : Int) + if u = true then 1 else 0) = ((Q + if v = true then 1 else 0 : Nat) : Int) := by
          intro u v h
          subst h
          cases u <;> simp
        rw [if_neg (show ¬ (false : Bool) = true by simp) (t := -_)]
        apply hkey
        by_cases m1 : mode = 1
        · simp [m1]
        · by_cases m2 : mode = 2
          · simp [m2]
          · by_cases m3 : mode = 3
            · simp [m3]
            · rfl

/-- the quotient with its sticky bit, in natural numbers -/
theorem qtail_nat (m m' p : Int) : ∃ S : Nat, (S = if 0 ≤ qsh m m' p then m.natAbs * 2 ^ (qsh m m' p).toNat else m.natAbs / 2 ^ (-(qsh m m' p)).toNat) ∧
    qtail m m' p = ((2 * (S / m'.natAbs) + (if qsh m m' p < 0 ∨ S % m'.natAbs ≠ 0 then 1 else 0) : Nat) : Int) := by
  refine ⟨_, rfl, ?_⟩
  have hs : shf (m.natAbs : Int) (qsh m m' p) = ((if 0 ≤ qsh m m' p then m.natAbs * 2 ^ (qsh m m' p).toNat else m.natAbs / 2 ^ (-(qsh m m' p)).toNat : Nat) : Int) := by
    unfold shf
    split
    · rw [Int.natCast_mul, Int.natCast_pow]; rfl
    · rw [Int.natCast_ediv, Int.natCast_pow]; rfl
  unfold qtail
  rw [hs]
  generalize (if 0 ≤ qsh m m' p then m.natAbs * 2 ^ (qsh m m' p).toNat else m.natAbs / 2 ^ (-(qsh m m' p)).toNat : Nat) = S
  rw [← Int.natCast_ediv, ← Int.natCast_emod]
  generalize S / m'.natAbs = N1
  generalize S % m'.natAbs = r1
  generalize qsh m m' p = s
  by_cases h1 : s < 0
  · simp [h1]
  · by_cases h2 : r1 = 0
    · subst h2; simp [h1, sgn3]
    · have : sgn3 (r1 : Int) 0 ≠ 0 := by unfold sgn3; rw [if_neg (by omega), if_pos (by omega)]; decide
      simp [h1, h2, this]

theorem tail_bit {c : Nat} (hc : c < 2) (N : Nat) : (2 * N + c) / 2 ^ 1 = N ∧ (2 * N + c) % 2 ^ 1 = c := by omega

theorem quo_rd {m m' E0 p : Int} {mode : Int} (hodd : m.natAbs % 2 = 1) (h0 : m' ≠ 0) (hp : 1 ≤ p) :
    drd (qsgn m m' (qtail m m' p)) (E0 - qsh m m' p - 1) p.toNat mode =
      rdV (decide (m < 0) != decide (m' < 0)) (m.natAbs * 2 ^ (qsh m m' p + 1).toNat / m'.natAbs) (E0 - ((qsh m m' p + 1).toNat : Int)) (decide (m.natAbs * 2 ^ (qsh m m' p + 1).toNat % m'.natAbs ≠ 0)) p.toNat mode := by
  have hbig : 2 ^ (p.toNat + 1) ≤ qtail m m' p := by
    have h := qtail_big (M := (m.natAbs : Int)) (D := (m'.natAbs : Int)) (p := p) (by omega) (by omega) (by omega) hp
    have e : qtail (m.natAbs : Int) (m'.natAbs : Int) p = qtail m m' p := by unfold qtail qsh; simp only [Int.natAbs_natCast]
    rw [e] at h
    exact h
  obtain ⟨S, hS, hq⟩ := qtail_nat m m' p
  obtain ⟨c, hc⟩ : ∃ c : Nat, (if qsh m m' p < 0 ∨ S % m'.natAbs ≠ 0 then 1 else 0 : Nat) = c := ⟨_, rfl⟩
  rw [hc] at hq
  have hc2 : c < 2 := by rw [← hc]; split <;> omega
  rw [hq] at hbig ⊢
  obtain ⟨s, hs⟩ : ∃ s, qsh m m' p = s := ⟨_, rfl⟩
  rw [hs] at hc hS ⊢
  have hA : 0 < m.natAbs := by omega
  have hB : 0 < m'.natAbs := by omega
  have hsg : decide (qsgn m m' ((2 * (S / m'.natAbs) + c : Nat) : Int) < 0) = (decide (m < 0) != decide (m' < 0)) ∧ (qsgn m m' ((2 * (S / m'.natAbs) + c : Nat) : Int)).natAbs = 2 * (S / m'.natAbs) + c ∧ qsgn m m' ((2 * (S / m'.natAbs) + c : Nat) : Int) ≠ 0 := by
    have hpos : 0 < 2 * (S / m'.natAbs) + c := by
      have h1 : (0 : Int) < 2 ^ (p.toNat + 1) := two_pos _
      omega
    generalize 2 * (S / m'.natAbs) + c = T at *
    unfold qsgn
    cases hx : (decide (m < 0) != decide (m' < 0))
    · simp only [Bool.false_eq_true, if_false]
      exact ⟨decide_eq_false (by omega), by omega, by omega⟩
    · simp only [if_true]
      exact ⟨decide_eq_true (by omega), by omega, by omega⟩
  have hN1 : 2 ^ p.toNat ≤ S / m'.natAbs := by
    have h1 : ((2 ^ (p.toNat + 1) : Nat) : Int) ≤ ((2 * (S / m'.natAbs) + c : Nat) : Int) := by rw [Int.natCast_pow]; exact hbig
    have h2 := Int.ofNat_le.1 h1
    rw [Nat.pow_succ] at h2
    omega
  rw [drd_rd hsg.2.2, hsg.1, hsg.2.1]
  obtain ⟨t1, t2⟩ := tail_bit hc2 (S / m'.natAbs)
  have hr1 := rd_tail (neg := decide (m < 0) != decide (m' < 0)) (N := 2 * (S / m'.natAbs) + c) (j := 1) (p := p.toNat) (e := E0 - s - 1) (t := false) (mode := mode) (by rw [t1]; exact hN1)
  rw [← hr1, t1, t2]
  clear hr1 t1 t2 hsg hq hbig hs
  generalize m.natAbs = A at *
  generalize m'.natAbs = B at *
  generalize (decide (m < 0) != decide (m' < 0)) = neg
  by_cases h : 0 ≤ s
  · obtain ⟨k, rfl⟩ := Int.eq_ofNat_of_zero_le h
    rw [if_pos h, Int.toNat_natCast] at hS
    rw [show ((k : Int) + 1).toNat = k + 1 by omega]
    have hdd : A * 2 ^ (k + 1) / B / 2 ^ 1 = S / B := by
      rw [Nat.div_div_eq_div_mul, Nat.pow_succ, ← Nat.mul_assoc, Nat.pow_one, Nat.mul_div_mul_right _ _ (by omega), hS]
    have hr2 := rd_tail (neg := neg) (N := A * 2 ^ (k + 1) / B) (j := 1) (p := p.toNat) (e := E0 - ((k + 1 : Nat) : Int)) (t := decide (A * 2 ^ (k + 1) % B ≠ 0)) (mode := mode) (by rw [hdd]; exact hN1)
    rw [← hr2, hdd]
    have ht : (false || decide (c ≠ 0)) = (decide (A * 2 ^ (k + 1) % B ≠ 0) || decide (A * 2 ^ (k + 1) / B % 2 ^ 1 ≠ 0)) := by
      rw [Bool.false_or, ← Bool.decide_or]
      apply decide_eq_decide.2
      have hcc : c ≠ 0 ↔ S % B ≠ 0 := by
        rw [← hc]
        constructor
        · intro h1 h2; apply h1; rw [if_neg]; rintro (h3 | h3); omega; exact h3 h2
        · intro h1; rw [if_pos (Or.inr h1)]; omega
      rw [hcc]
      have e1 : A * 2 ^ (k + 1) = 2 * S := by rw [hS, Nat.pow_succ, ← Nat.mul_assoc, Nat.mul_comm]
      rw [e1]
      have d1 := Nat.div_add_mod (2 * S) B
      have d2 := Nat.div_add_mod S B
      constructor
      · intro h1
        by_cases h2 : 2 * S % B = 0
        · right
          intro h3
          apply h1
          obtain ⟨q, hq⟩ : ∃ q, 2 * S / B = 2 * q := ⟨2 * S / B / 2, by omega⟩
          rw [h2, hq, Nat.mul_left_comm] at d1
          have : S = B * q := by omega
          rw [this, Nat.mul_mod_right]
        · exact Or.inl h2
      · rintro h1 h2
        rw [h2, Nat.add_zero] at d2
        rcases h1 with h1 | h1
        · apply h1; rw [← d2, Nat.mul_left_comm, Nat.mul_mod_right]
        · apply h1
          rw [← d2, Nat.mul_left_comm, Nat.mul_div_cancel_left _ hB]
          omega
    rw [ht]
    congr 1
    omega
  · obtain ⟨j, rfl⟩ : ∃ j : Nat, s = -(j : Int) := ⟨(-s).toNat, by omega⟩
    have hj : 1 ≤ j := by omega
    rw [if_neg h, Int.neg_neg, Int.toNat_natCast] at hS
    rw [show (-(j : Int) + 1).toNat = 0 by omega, Nat.pow_zero, Nat.mul_one]
    have hdd : A / B / 2 ^ j = S / B := by
      rw [Nat.div_div_eq_div_mul, hS, Nat.div_div_eq_div_mul, Nat.mul_comm]
    have hr2 := rd_tail (neg := neg) (N := A / B) (j := j) (p := p.toNat) (e := E0 - ((0 : Nat) : Int)) (t := decide (A % B ≠ 0)) (mode := mode) (by rw [hdd]; exact hN1)
    rw [← hr2, hdd]
    have hc1 : c = 1 := by rw [← hc, if_pos (Or.inl (by omega))]
    have ht : (false || decide (c ≠ 0)) = (decide (A % B ≠ 0) || decide (A / B % 2 ^ j ≠ 0)) := by
      rw [hc1]
      have : A % B ≠ 0 ∨ A / B % 2 ^ j ≠ 0 := by
        by_cases h2 : A % B = 0
        · right
          intro h3
          have d1 := Nat.div_add_mod A B
          have d2 := Nat.div_add_mod (A / B) (2 ^ j)
          rw [h3, Nat.add_zero] at d2
          rw [h2, Nat.add_zero, ← d2] at d1
          obtain ⟨i, rfl⟩ : ∃ i, j = i + 1 := ⟨j - 1, by omega⟩
          have : A = 2 * (2 ^ i * (A / B / 2 ^ (i + 1)) * B) := by
            conv => lhs; rw [← d1]
            rw [Nat.pow_succ, Nat.mul_comm (2 ^ i) 2, Nat.mul_assoc 2, Nat.mul_left_comm, Nat.mul_comm B]
          omega
        · exact Or.inl h2
      rw [← Bool.decide_or, decide_eq_true this]
      rfl
    rw [ht]
    congr 1
    omega
/-- the root with its tail is the longer root, rounded -/
theorem root_rd {A : Nat} {e p : Int} {k : Nat} {mode : Int} (hodd : A % 2 = 1) (hp : 1 ≤ p) (hk : 2 * p + 4 - (blen A : Int) ≤ k) (hev : (e - k) % 2 = 0) :
    drd (rtail A (rsh A e p)) ((e - rsh A e p) / 2 - 1) p.toNat mode = rdV false (isq (A * 2 ^ k)) ((e - k) / 2) (decide (isq (A * 2 ^ k) * isq (A * 2 ^ k) ≠ A * 2 ^ k)) p.toNat mode := by
  have hor := rsh_or (A : Int) e p
  have hev2 := rsh_even (A : Int) e p
  have hA : (0 : Int) < (A : Int) := by omega
  have hAo : (A : Int) % 2 = 1 := by omega
  obtain ⟨hs1, hs2⟩ := rtail_size hA hAo hp hor
  obtain ⟨K1, K2⟩ := root_key (sh := rsh (A : Int) e p) hA hAo
  rw [Int.natAbs_natCast] at hor
  generalize rsh (A : Int) e p = sh at *
  obtain ⟨j, hj⟩ : ∃ j : Nat, (k : Int) - sh = 2 * (j : Int) := ⟨((k : Int) - sh).toNat / 2, by omega⟩
  have hj1 : 1 ≤ j := by omega
  obtain ⟨F, hF1, hF2, hF0⟩ : ∃ F : Int, shU sh * F = ((2 ^ j * 2 ^ j : Nat) : Int) ∧ shV sh * F = ((2 ^ k : Nat) : Int) ∧ 0 < F := by
    unfold shU shV
    by_cases h : 0 ≤ sh
    · refine ⟨((2 ^ j * 2 ^ j : Nat) : Int), ?_, ?_, ?_⟩
      · rw [if_pos h, Int.one_mul]
      · rw [if_pos h]
        obtain ⟨s, rfl⟩ := Int.eq_ofNat_of_zero_le h
        have e : 2 ^ k = 2 ^ s * (2 ^ j * 2 ^ j) := by rw [show k = s + (j + j) by omega, Nat.pow_add 2 s, Nat.pow_add 2 j]
        rw [Int.toNat_natCast, e, Int.natCast_mul (2 ^ s), Int.natCast_pow 2 s]
        rfl
      · exact Int.ofNat_lt.2 (Nat.mul_pos (Nat.pow_pos (by omega)) (Nat.pow_pos (by omega)))
    · refine ⟨((2 ^ k : Nat) : Int), ?_, ?_, ?_⟩
      · rw [if_neg h]
        obtain ⟨s, rfl⟩ : ∃ s : Nat, sh = -(s : Int) := ⟨(-sh).toNat, by omega⟩
        have e : 2 ^ j * 2 ^ j = 2 ^ s * 2 ^ k := by rw [← Nat.pow_add, ← Nat.pow_add, show j + j = s + k by omega]
        rw [Int.neg_neg, Int.toNat_natCast, e, Int.natCast_mul (2 ^ s), Int.natCast_pow 2 s]
        rfl
      · rw [if_neg h, Int.one_mul]
      · exact Int.ofNat_lt.2 (Nat.pow_pos (by omega))
  obtain ⟨T, hT⟩ : ∃ T : Nat, rtail (A : Int) sh = (T : Int) := ⟨(rtail (A : Int) sh).toNat, by have := two_pos (p.toNat + 1); omega⟩
  rw [hT] at K1 K2 hs1 hs2 ⊢
  have hsq : ∀ c : Nat, c * c * (2 ^ j * 2 ^ j) = (c * 2 ^ j) * (c * 2 ^ j) := fun c => by rw [Nat.mul_mul_mul_comm]
  have L1 : ∀ c : Nat, 2 * c ≤ T ↔ (c * 2 ^ j) * (c * 2 ^ j) ≤ A * 2 ^ k := by
    intro c
    have h := K1 c (Int.natCast_nonneg _)
    have h2 : (c : Int) * c * shU sh ≤ A * shV sh ↔ (c : Int) * c * shU sh * F ≤ A * shV sh * F := ⟨fun x => Int.mul_le_mul_of_nonneg_right x (Int.le_of_lt hF0), fun x => Int.le_of_mul_le_mul_right x hF0⟩
    rw [Int.mul_assoc _ (shU sh), Int.mul_assoc _ (shV sh), hF1, hF2, ← Int.natCast_mul, ← Int.natCast_mul, ← Int.natCast_mul, Int.ofNat_le, hsq] at h2
    rw [← Int.natCast_mul c c] at h
    rw [← h2, ← h]
    omega
  have L2 : ∀ c : Nat, T ≤ 2 * c ↔ A * 2 ^ k ≤ (c * 2 ^ j) * (c * 2 ^ j) := by
    intro c
    have h := K2 c (Int.natCast_nonneg _)
    have h2 : A * shV sh ≤ (c : Int) * c * shU sh ↔ A * shV sh * F ≤ (c : Int) * c * shU sh * F := ⟨fun x => Int.mul_le_mul_of_nonneg_right x (Int.le_of_lt hF0), fun x => Int.le_of_mul_le_mul_right x hF0⟩
    rw [Int.mul_assoc _ (shU sh), Int.mul_assoc _ (shV sh), hF1, hF2, ← Int.natCast_mul, ← Int.natCast_mul, ← Int.natCast_mul, Int.ofNat_le, hsq] at h2
    rw [← Int.natCast_mul c c] at h
    rw [← h2, ← h]
    omega
  have hpp : 2 ^ (p.toNat + 1) ≤ T := by
    have : ((2 ^ (p.toNat + 1) : Nat) : Int) ≤ (T : Int) := by rw [Int.natCast_pow]; exact hs1
    exact Int.ofNat_le.1 this
  clear K1 K2 hF1 hF2 hs1 hs2 hT hsq
  obtain ⟨q, hq⟩ : ∃ q, isq (A * 2 ^ k) = q := ⟨_, rfl⟩
  rw [hq]
  have Q := fun (a : Nat) => isq_le (N := A * 2 ^ k) (a := a)
  rw [hq] at Q
  have hsq2 : ∀ a : Nat, A * 2 ^ k = a * a → q = a := fun a h => by rw [← hq, h, isq_sq]
  generalize A * 2 ^ k = M at *
  have hJ : 0 < 2 ^ j := Nat.pow_pos (by omega)
  have hR : q / 2 ^ j = T / 2 := by
    have a1 : T / 2 ≤ q / 2 ^ j := by rw [Nat.le_div_iff_mul_le hJ, Q, ← L1]; omega
    have a2 : 2 * (q / 2 ^ j) ≤ T := by rw [L1, ← Q]; exact Nat.div_mul_le_self _ _
    omega
  have hb : (false || decide (T % 2 ^ 1 ≠ 0)) = (decide (q * q ≠ M) || decide (q % 2 ^ j ≠ 0)) := by
    rw [Bool.false_or, ← Bool.decide_or]
    apply decide_eq_decide.2
    have h1 := L1 (T / 2)
    have h2 := L2 (T / 2)
    have hd := Nat.div_add_mod q (2 ^ j)
    constructor
    · intro h
      by_cases h3 : q % 2 ^ j = 0
      · left
        intro h4
        rw [h3, hR, Nat.add_zero, Nat.mul_comm] at hd
        rw [hd, h4] at h2
        have := h2.2 (Nat.le_refl _)
        omega
      · exact Or.inr h3
    · intro h h3
      have h4 : T ≤ 2 * (T / 2) := by omega
      have h5 := Nat.le_antisymm (h1.1 (by omega)) (h2.1 h4)
      have h6 := hsq2 _ h5.symm
      rcases h with h | h
      · apply h; rw [h6]; exact h5
      · apply h; rw [h6]; exact Nat.mul_mod_left _ _
  rw [drd_rd (by have := Nat.pow_pos (n := p.toNat + 1) (show 0 < 2 by omega); omega), decide_eq_false (by omega), Int.natAbs_natCast]
  have hp2 : 2 ^ p.toNat ≤ T / 2 := by rw [Nat.pow_succ] at hpp; omega
  have r1 := rd_tail (neg := false) (N := T) (j := 1) (p := p.toNat) (e := (e - sh) / 2 - 1) (t := false) (mode := mode) hp2
  have r2 := rd_tail (neg := false) (N := q) (j := j) (p := p.toNat) (e := (e - k) / 2) (t := decide (q * q ≠ M)) (mode := mode) (by rw [hR]; exact hp2)
  rw [← r1, ← r2, hb, hR]
  congr 1
  omega
end Go.Proofs.YtjohpdobnedilaaGreatDoor
