import Derived.Test.YtlpclahlolhjfaaGreatDoorMoRlU38
import Derived.Test.YtlpclahlolhjfaaGreatDoorMoRlU23
import Derived.Test.YtlpclahlolhjfaaGreatDoorMoRlU18
import Derived.Test.YtlpclahlolhjfaaGreatDoorMoRlU30
import Derived.Test.YtlpclahlolhjfaaGreatDoorMoRlU28
namespace Go.Proofs.YtlpclahlolhjfaaGreatDoor

/-- the remainder that is within the bound first, and its cofactor -/
def eu : Nat → Int → Int → Int → Int → Int → Int × Int
  | 0, _, _, b, _, t => (b, t)
  | f + 1, m, a, b, s, t => if m < 2 * (b * b) then eu f m b (a % b) t (s - a / b * t) else (b, t)
theorem eu_go {f : Nat} {m a b s t : Int} (h : m < 2 * (b * b)) : eu (f + 1) m a b s t = eu f m b (a % b) t (s - a / b * t) := by
  conv => lhs; unfold eu
  rw [if_pos h]
theorem eu_stop {f : Nat} {m a b s t : Int} (h : ¬ m < 2 * (b * b)) : eu (f + 1) m a b s t = (b, t) := by
  conv => lhs; unfold eu
  rw [if_neg h]
structure EA (x m a b s t : Int) : Prop where
  b0 : 0 ≤ b
  ba : b < a
  am : a ≤ m
  st : s * t ≤ 0
  det : a * t - b * s = m ∨ a * t - b * s = -m
  ca : m ∣ a - x * s
  cb : m ∣ b - x * t
  big : a = m ∨ m < 2 * (a * a)
  sm : -m ≤ s ∧ s ≤ m
theorem EA.start {x m : Int} (hm : 0 < m) : EA x m m (x % m) 0 1 where
  b0 := Int.emod_nonneg _ (by omega)
  ba := Int.emod_lt_of_pos _ hm
  am := Int.le_refl _
  st := by omega
  det := Or.inl (by omega)
  ca := ⟨1, by omega⟩
  cb := by
    rw [Int.mul_one]
    have : m ∣ x - x % m := Int.dvd_self_sub_emod
    have := Int.dvd_neg.2 this
    rwa [Int.neg_sub] at this
  big := Or.inl rfl
  sm := by omega
theorem EA.at {x m a b s t : Int} (h : EA x m a b s t) : -m ≤ a * t ∧ a * t ≤ m := by
  have ha : 0 < a := by have := h.b0; have := h.ba; omega
  have hb := h.b0
  rcases Int.lt_trichotomy t 0 with ht | ht | ht
  · have hs : 0 ≤ s := by
      rcases Int.lt_or_le s 0 with h1 | h1
      · have := Int.mul_pos_of_neg_of_neg h1 ht
        have := h.st
        omega
      · exact h1
    have h1 : a * t ≤ 0 := Int.mul_nonpos_of_nonneg_of_nonpos (by omega) (by omega)
    have h2 : 0 ≤ b * s := Int.mul_nonneg hb hs
    have := h.det
    have := h.am
    omega
  · subst ht
    have := h.am
    rw [Int.mul_zero]
    omega
  · have hs : s ≤ 0 := by
      rcases Int.lt_or_le 0 s with h1 | h1
      · have := Int.mul_pos h1 ht
        have := h.st
        omega
      · exact h1
    have h1 : 0 ≤ a * t := Int.mul_nonneg (by omega) (by omega)
    have h2 : b * s ≤ 0 := Int.mul_nonpos_of_nonneg_of_nonpos hb hs
    have := h.det
    have := h.am
    omega
theorem EA.tm {x m a b s t : Int} (h : EA x m a b s t) : -m ≤ t ∧ t ≤ m := by
  have h1 := h.at
  have ha : 1 ≤ a := by have := h.b0; have := h.ba; omega
  rcases Int.lt_or_le t 0 with ht | ht
  · have h2 : (a - 1) * t ≤ 0 := Int.mul_nonpos_of_nonneg_of_nonpos (by omega) (by omega)
    rw [Int.sub_mul, Int.one_mul] at h2
    omega
  · have h2 : 0 ≤ (a - 1) * t := Int.mul_nonneg (by omega) (by omega)
    rw [Int.sub_mul, Int.one_mul] at h2
    omega
theorem EA.pos {x m a b s t : Int} (h : EA x m a b s t) (hb : m < 2 * (b * b)) : 0 < b := by
  have := h.b0
  have := h.ba
  have := h.am
  rcases Int.lt_or_eq_of_le h.b0 with h1 | h1
  · exact h1
  · subst h1
    omega
theorem EA.step {x m a b s t : Int} (h : EA x m a b s t) (hb : m < 2 * (b * b)) : EA x m b (a % b) t (s - a / b * t) := by
  have hp := h.pos hb
  have hq : 0 ≤ a / b := Int.ediv_nonneg (by have := h.ba; omega) h.b0
  have hmod : a % b = a - b * (a / b) := Int.emod_def a b
  have htt : 0 ≤ t * t := by
    rcases Int.le_total 0 t with h1 | h1
    · exact Int.mul_nonneg h1 h1
    · exact Int.mul_nonneg_of_nonpos_of_nonpos h1 h1
  refine ⟨Int.emod_nonneg _ (by omega), Int.emod_lt_of_pos _ hp, by have := h.ba; have := h.am; omega, ?_, ?_, h.cb, ?_, Or.inr hb, h.tm⟩
  · have := Int.mul_nonneg hq htt
    have e : t * (s - a / b * t) = s * t - a / b * (t * t) := by
      rw [Int.mul_sub, Int.mul_comm t s, Int.mul_left_comm]
    rw [e]
    have := h.st
    omega
  · have e : b * (s - a / b * t) - a % b * t = -(a * t - b * s) := by
      rw [hmod, Int.mul_sub, Int.sub_mul, Int.mul_assoc b (a / b) t]
      omega
    rw [e]
    have := h.det
    omega
  · have e : a % b - x * (s - a / b * t) = (a - x * s) - a / b * (b - x * t) := by
      rw [hmod, Int.mul_sub, Int.mul_sub, Int.mul_comm b (a / b), Int.mul_left_comm x (a / b) t]
      omega
    rw [e]
    exact Int.dvd_sub h.ca (Int.dvd_mul_of_dvd_right h.cb)
theorem eu_spec {x m : Int} : ∀ (f : Nat) {a b s t : Int}, EA x m a b s t → b < f → ∃ a' s', EA x m a' (eu f m a b s t).1 s' (eu f m a b s t).2 ∧ ¬ m < 2 * ((eu f m a b s t).1 * (eu f m a b s t).1)
  | 0, a, b, s, t, h, hf => by have := h.b0; omega
  | f + 1, a, b, s, t, h, hf => by
    by_cases hb : m < 2 * (b * b)
    · rw [eu_go hb]
      refine eu_spec f (h.step hb) ?_
      have := Int.emod_lt_of_pos a (h.pos hb)
      omega
    · rw [eu_stop hb]
      exact ⟨a, s, h, hb⟩
/-- the bound by a root is the bound by twice the square -/
theorem root_bound {m S c : Int} (hS : 0 ≤ S) (h1 : S * S ≤ m / 2) (h2 : m / 2 < (S + 1) * (S + 1)) (hc : 0 ≤ c) : S < c ↔ m < 2 * (c * c) := by
  constructor
  · intro h
    have : (S + 1) * (S + 1) ≤ c * c := Int.mul_le_mul (by omega) (by omega) (by omega) hc
    omega
  · intro h
    rcases Int.lt_or_le S c with h3 | h3
    · exact h3
    · have : c * c ≤ S * S := Int.mul_le_mul h3 h3 hc hS
      omega
/-- what Rational answers -/
def ratBad (m r t : Int) : Prop := m < 2 * (t * t) ∨ Nat.gcd r.natAbs t.natAbs ≠ 1
open Classical in
noncomputable def ratOut (x m : Int) : Int × Int × Bool :=
  if m ≤ 0 then (0, 0, false)
  else if ratBad m (eu (m.toNat + 1) m m (x % m) 0 1).1 (eu (m.toNat + 1) m m (x % m) 0 1).2 then (0, 0, false)
  else if (eu (m.toNat + 1) m m (x % m) 0 1).2 < 0 then (-(eu (m.toNat + 1) m m (x % m) 0 1).1, -(eu (m.toNat + 1) m m (x % m) 0 1).2, true)
  else ((eu (m.toNat + 1) m m (x % m) 0 1).1, (eu (m.toNat + 1) m m (x % m) 0 1).2, true)
theorem ratOut_none {x m : Int} (h : m ≤ 0) : ratOut x m = (0, 0, false) := by unfold ratOut; rw [if_pos h]
theorem ratOut_bad {x m r t : Int} (h : ¬ m ≤ 0) (hr : eu (m.toNat + 1) m m (x % m) 0 1 = (r, t)) (hb : ratBad m r t) : ratOut x m = (0, 0, false) := by unfold ratOut; rw [if_neg h, hr, if_pos hb]
theorem ratOut_neg {x m r t : Int} (h : ¬ m ≤ 0) (hr : eu (m.toNat + 1) m m (x % m) 0 1 = (r, t)) (hb : ¬ ratBad m r t) (ht : t < 0) : ratOut x m = (-r, -t, true) := by unfold ratOut; rw [if_neg h, hr, if_neg hb, if_pos ht]
theorem ratOut_pos {x m r t : Int} (h : ¬ m ≤ 0) (hr : eu (m.toNat + 1) m m (x % m) 0 1 = (r, t)) (hb : ¬ ratBad m r t) (ht : ¬ t < 0) : ratOut x m = (r, t, true) := by unfold ratOut; rw [if_neg h, hr, if_neg hb, if_neg ht]

theorem big_prime : noDiv 2147483647 2 := by
  have h := mr_isP (p := 2147483647) (Or.inr (by omega))
  have h2 : mr 2147483647 = true := mr_run (p := 2147483647) (by omega) (by omega) (by decide +kernel)
  rw [h2] at h
  exact (isP_iff.1 h.symm).2.2
theorem big_dvd {d : Nat} (h : d ∣ 2147483647) (hd : d ≤ 65535) : d = 1 := by
  obtain ⟨c, hc⟩ := h
  have h0 : d ≠ 0 := by rintro rfl; omega
  by_cases h1 : d = 1
  · exact h1
  exfalso
  rcases Nat.lt_or_ge d 46341 with h2 | h2
  · exact big_prime d (by omega) (Nat.le_trans (Nat.mul_le_mul (show d ≤ 46340 by omega) (show d ≤ 46340 by omega)) (by omega)) (Nat.mod_eq_zero_of_dvd ⟨c, hc⟩)
  · have h3 : c < 46341 := by
      rcases Nat.lt_or_ge c 46341 with h3 | h3
      · exact h3
      · have := Nat.mul_le_mul h2 h3
        omega
    have h4 : 2 ≤ c := by
      rcases Nat.lt_or_ge c 2 with h4 | h4
      · have := Nat.mul_le_mul hd (show c ≤ 1 by omega)
        omega
      · exact h4
    exact big_prime c h4 (Nat.le_trans (Nat.mul_le_mul (show c ≤ 46340 by omega) (show c ≤ 46340 by omega)) (by omega)) (Nat.mod_eq_zero_of_dvd ⟨d, by rw [Nat.mul_comm]; exact hc⟩)
theorem abs_le_mul {x y : Int} {N M : Nat} (hx : x.natAbs ≤ N) (hy : y.natAbs ≤ M) : (x * y).natAbs ≤ N * M := by
  rw [Int.natAbs_mul]; exact Nat.mul_le_mul hx hy
/-- Wang's theorem at the greatest modulus, for terms up to 1000 -/
theorem wang {x a r s t p q : Int} (h : EA x 2147483647 a r s t) (hr : ¬ (2147483647 : Int) < 2 * (r * r)) (hx : (2147483647 : Int) ∣ p - x * q) (hp : p.natAbs ≤ 1000) (hq0 : 1 ≤ q) (hq : q ≤ 1000) (hg : Nat.gcd p.natAbs q.natAbs = 1) :
    (r = p ∧ t = q) ∨ (r = -p ∧ t = -q) := by
  have hr1 : r ≤ 32767 := by
    rcases Int.lt_or_le 32767 r with h1 | h1
    · have : 32768 * 32768 ≤ r * r := Int.mul_le_mul (by omega) (by omega) (by omega) (by omega)
      omega
    · exact h1
  have ha : 32768 ≤ a := by
    rcases Int.lt_or_le a 32768 with h1 | h1
    · have h0 : 0 ≤ a := by have := h.b0; have := h.ba; omega
      have : a * a ≤ 32767 * 32767 := Int.mul_le_mul (by omega) (by omega) h0 (by omega)
      have := h.big
      omega
    · exact h1
  have hat := h.at
  have ht : t.natAbs ≤ 65535 := by
    rcases Int.lt_or_le t 0 with h1 | h1
    · have h2 : (a - 32768) * t ≤ 0 := Int.mul_nonpos_of_nonneg_of_nonpos (by omega) (by omega)
      rw [Int.sub_mul] at h2
      omega
    · have h2 : 0 ≤ (a - 32768) * t := Int.mul_nonneg (by omega) (by omega)
      rw [Int.sub_mul] at h2
      omega
  have hr0 := h.b0
  have b1 := abs_le_mul hp ht
  have b2 := abs_le_mul (x := q) (y := r) (N := 1000) (M := 32767) (by omega) (by omega)
  have hd : (2147483647 : Int) ∣ p * t - q * r := by
    have e : p * t - q * r = t * (p - x * q) - q * (r - x * t) := by
      rw [Int.mul_sub, Int.mul_sub, Int.mul_comm p t, Int.mul_left_comm t x q, Int.mul_left_comm q x t, Int.mul_comm t q]
      omega
    rw [e]
    exact Int.dvd_sub (Int.dvd_mul_of_dvd_right hx) (Int.dvd_mul_of_dvd_right h.cb)
  obtain ⟨k, hk⟩ := hd
  have hpt : p * t = q * r := by omega
  have hqt : q.natAbs ∣ t.natAbs := by
    have h1 : q.natAbs ∣ p.natAbs * t.natAbs := by rw [← Int.natAbs_mul, hpt, Int.natAbs_mul]; exact Nat.dvd_mul_right _ _
    exact Nat.Coprime.dvd_of_dvd_mul_left (show Nat.gcd q.natAbs p.natAbs = 1 by rw [Nat.gcd_comm]; exact hg) h1
  obtain ⟨j, hj⟩ := Int.natAbs_dvd_natAbs.1 hqt
  have hrj : r = p * j := by
    have : q * r = q * (p * j) := by rw [← hpt, hj, Int.mul_left_comm]
    exact Int.eq_of_mul_eq_mul_left (by omega) this
  have hdet : j * (a * q - p * s) = 2147483647 ∨ j * (a * q - p * s) = -2147483647 := by
    have e : j * (a * q - p * s) = a * t - r * s := by
      rw [hrj, hj, Int.mul_sub, Int.mul_left_comm j a q, Int.mul_comm j q, ← Int.mul_assoc j p s, Int.mul_comm j p]
    rw [e]
    have := h.det
    omega
  have hjd : j.natAbs ∣ 2147483647 := by
    have h1 : j.natAbs ∣ (j * (a * q - p * s)).natAbs := by rw [Int.natAbs_mul]; exact Nat.dvd_mul_right _ _
    have h2 : (j * (a * q - p * s)).natAbs = 2147483647 := by omega
    rwa [h2] at h1
  have hjl : j.natAbs ≤ 65535 := by
    have : t.natAbs = q.natAbs * j.natAbs := by rw [hj, Int.natAbs_mul]
    have h1 : 1 * j.natAbs ≤ q.natAbs * j.natAbs := Nat.mul_le_mul_right _ (by omega)
    omega
  have hj1 := big_dvd hjd hjl
  rcases Int.natAbs_eq j with h1 | h1
  · rw [hj1] at h1
    subst h1
    left
    rw [hrj, hj]
    constructor <;> omega
  · rw [hj1] at h1
    subst h1
    right
    rw [hrj, hj]
    constructor <;> omega
theorem rat_back {x p q : Int} (hx : (2147483647 : Int) ∣ p - x * q) (hp : p.natAbs ≤ 1000) (hq0 : 1 ≤ q) (hq : q ≤ 1000) (hg : Nat.gcd p.natAbs q.natAbs = 1) : ratOut x 2147483647 = (p, q, true) := by
  have hlt := Int.emod_lt_of_pos x (show (0 : Int) < 2147483647 by omega)
  obtain ⟨a, s, hE, hr⟩ := eu_spec ((2147483647 : Int).toNat + 1) (EA.start (x := x) (m := 2147483647) (by omega)) (by omega)
  obtain ⟨⟨r, t⟩, hrt⟩ : ∃ R, eu ((2147483647 : Int).toNat + 1) 2147483647 2147483647 (x % 2147483647) 0 1 = R := ⟨_, rfl⟩
  rw [hrt] at hE hr
  simp only at hE hr
  have hnb : (t = q ∨ t = -q) → Nat.gcd r.natAbs t.natAbs = 1 → ¬ ratBad 2147483647 r t := by
    rintro h1 h2 (h3 | h3)
    · have : (t * t).natAbs ≤ 1000 * 1000 := abs_le_mul (by omega) (by omega)
      omega
    · exact h3 h2
  rcases wang hE hr hx hp hq0 hq hg with ⟨rfl, rfl⟩ | ⟨rfl, rfl⟩
  · exact ratOut_pos (by omega) hrt (hnb (Or.inl rfl) hg) (by omega)
  · rw [ratOut_neg (by omega) hrt (hnb (Or.inr rfl) (by rw [Int.natAbs_neg, Int.natAbs_neg]; exact hg)) (by omega), Int.neg_neg, Int.neg_neg]
/-- the remainders' inverses, for denominators up to 1000 -/
def chkI (p e n : Nat) : Bool := Nat.rec (motive := fun _ => Bool) true (fun k ih => cond (Nat.beq (Nat.mod (Nat.mul (Nat.succ k) (pwk p 32 1 (Nat.succ k) e)) p) 1) ih false) n
theorem chkI_spec {p e : Nat} : ∀ {n : Nat}, chkI p e n = true → ∀ k, 1 ≤ k → k ≤ n → k * pwk p 32 1 k e % p = 1
  | 0, _, k, h1, h2 => by omega
  | n + 1, h, k, h1, h2 => by
    have h' : cond (Nat.beq ((n + 1) * (pwk p 32 1 (n + 1) e) % p) 1) (chkI p e n) false = true := h
    cases hc : Nat.beq ((n + 1) * (pwk p 32 1 (n + 1) e) % p) 1 with
    | false => rw [hc] at h'; cases h'
    | true =>
      rw [hc] at h'
      rcases Nat.lt_or_ge k (n + 1) with h5 | h5
      · exact chkI_spec h' k h1 (by omega)
      · obtain rfl : k = n + 1 := by omega
        exact Nat.eq_of_beq_eq_true hc
theorem chkI_all : chkI 2147483647 2147483645 1000 = true := by decide +kernel
theorem inv_small {q : Int} (h1 : 1 ≤ q) (h2 : q ≤ 1000) : (2147483647 : Int) ∣ q * invZ (q % 2147483647) 2147483647 - 1 := by
  obtain ⟨n, rfl⟩ := Int.eq_ofNat_of_zero_le (show 0 ≤ q by omega)
  refine inv_fact n 2147483647 (by omega) (by omega) ?_
  have h := chkI_spec chkI_all n (by omega) (by omega)
  rw [Nat.mod_eq_of_lt (show n < 2147483647 by omega)]
  show ((n : Int) * ((pwk 2147483647 32 1 n 2147483645 : Nat) : Int) - 1) % 2147483647 = 0
  obtain ⟨z, hz⟩ : ∃ z, n * pwk 2147483647 32 1 n 2147483645 = z := ⟨_, rfl⟩
  rw [← Int.natCast_mul, hz]
  rw [hz] at h
  omega
/-- the fraction's remainder -/
theorem frac_dvd {p q v : Int} (h : (2147483647 : Int) ∣ q * v - 1) : (2147483647 : Int) ∣ p - p * v * q := by
  have e : p - p * v * q = -(p * (q * v - 1)) := by
    rw [Int.mul_sub, Int.mul_one, Int.mul_assoc, Int.mul_comm v q]
    omega
  rw [e]
  exact Int.dvd_neg.2 (Int.dvd_mul_of_dvd_right h)
end Go.Proofs.YtlpclahlolhjfaaGreatDoor

namespace Go.Proofs.YtlpclahlolhjfaaGreatDoor
open Go Go.RowKit

/-- the number in a box of a world, zero where there is none -/
def IsNum (w : World) (g x : Nat) : Prop := ∃ nb ao n ca, Box w g nb ao n ca ∧ Bn w nb ao n ca (x : Int)
theorem IsNum.unique {w : World} {g x y : Nat} (h : IsNum w g x) (k : IsNum w g y) : x = y := by
  obtain ⟨nb, ao, n, ca, b1, n1⟩ := h
  obtain ⟨mb, bo, m, cb, b2, n2⟩ := k
  unfold Box at b1 b2
  rw [b1] at b2
  injection b2 with b2
  injection b2 with b2
  have e1 : Value.slice ao n ca = .slice bo m cb := by
    have := congrArg (fun (a : Array Value) => a[1]?) b2
    simpa using this
  injection e1 with e1 e2 e3
  subst e1 e2 e3
  have s1 := n1.sl
  have s2 := n2.sl
  rw [Int.natAbs_natCast] at s1 s2
  have hl : limbs x = limbs y := by
    refine List.ext_getElem (by rw [s1.len, s2.len]) fun j h1 h2 => ?_
    have hn : 0 < n := by rw [s1.len] at h1; omega
    obtain ⟨b, o, e, c1⟩ := s1.cells (by rw [s1.len]; exact hn)
    obtain ⟨b', o', e', c2⟩ := s2.cells (by rw [s2.len]; exact hn)
    rw [e] at e'
    cases e'
    have g1 := c1 j h1
    have g2 := c2 j h2
    rw [g1] at g2
    injection g2 with g2
    injection g2 with _ g2
    simpa [List.getD, h1, h2] using g2
  exact limbs_inj hl
noncomputable def numAt (w : World) (g : Nat) : Nat := by
  classical
  exact if h : ∃ x, IsNum w g x then h.choose else 0
theorem numAt_is {w : World} {g x : Nat} (h : IsNum w g x) : numAt w g = x := by
  have hx : ∃ x, IsNum w g x := ⟨x, h⟩
  unfold numAt
  rw [dif_pos hx]
  exact hx.choose_spec.unique h
end Go.Proofs.YtlpclahlolhjfaaGreatDoor

namespace Go.Proofs.YtlpclahlolhjfaaGreatDoor
open Go Go.RowKit

/-- a number in a box: normalized, or of few limbs -/
def NA (w : World) (g : Nat) (x : Int) : Prop := ∃ nb ao n ca, Box w g nb ao n ca ∧ Bn w nb ao n ca x
def GA (w : World) (g : Nat) (x : Int) : Prop := ∃ nb ao n ca, Box w g nb ao n ca ∧ Bg w nb ao n ca x ∧ n ≤ 100
theorem within_limbs {w : World} {nb : Bool} {ao : Option Addr} {n ca : Nat} {x M : Int} (h : Bn w nb ao n ca x) (hM : M.natAbs < 4294967296 ^ 20) (h1 : -M ≤ x ∧ x ≤ M) : n ≤ 20 :=
  few_limbs h (Nat.lt_of_le_of_lt (show x.natAbs ≤ M.natAbs by omega) hM)
theorem within_prod {w : World} {nb : Bool} {ao : Option Addr} {n ca : Nat} {x y M : Int} (h : Bn w nb ao n ca (x * y)) (hM : M.natAbs < 4294967296 ^ 20) (h1 : -M ≤ x ∧ x ≤ M) (h2 : -M ≤ y ∧ y ≤ M) : n ≤ 40 :=
  few_limbs h (abs_mul (N := 20) (M := 20) (Nat.lt_of_le_of_lt (show x.natAbs ≤ M.natAbs by omega) hM) (Nat.lt_of_le_of_lt (show y.natAbs ≤ M.natAbs by omega) hM))
theorem quo_within {a b M : Int} (ha : 0 ≤ a) (hb : 0 < b) (hM : a ≤ M) : -M ≤ a / b ∧ a / b ≤ M := by
  have h1 := Int.ediv_nonneg ha (Int.le_of_lt hb)
  have h2 := Int.ediv_le_self b ha
  omega
theorem two_set {w : World} {g h : Nat} {gn hn xn yn : Bool} {go ho xo yo : Option Addr} {gk gc hk hc xk xc yk yc : Nat} (hg : Box w g gn go gk gc) (hh : Box w h hn ho hk hc) (hne : g ≠ h) :
    Box ((((w.setCell ⟨g, 0, none⟩ (.bool xn)).setCell ⟨g, 1, none⟩ (.slice xo xk xc)).setCell ⟨h, 0, none⟩ (.bool yn)).setCell ⟨h, 1, none⟩ (.slice yo yk yc)) g xn xo xk xc ∧ Box ((((w.setCell ⟨g, 0, none⟩ (.bool xn)).setCell ⟨g, 1, none⟩ (.slice xo xk xc)).setCell ⟨h, 0, none⟩ (.bool yn)).setCell ⟨h, 1, none⟩ (.slice yo yk yc)) h yn yo yk yc ∧
    (∀ B, B ≤ g → B ≤ h → Below B w ((((w.setCell ⟨g, 0, none⟩ (.bool xn)).setCell ⟨g, 1, none⟩ (.slice xo xk xc)).setCell ⟨h, 0, none⟩ (.bool yn)).setCell ⟨h, 1, none⟩ (.slice yo yk yc))) ∧
    (∀ (ro : Option Addr) (k cr : Nat) (zs : List Int), Sl w ro k cr zs → Sl ((((w.setCell ⟨g, 0, none⟩ (.bool xn)).setCell ⟨g, 1, none⟩ (.slice xo xk xc)).setCell ⟨h, 0, none⟩ (.bool yn)).setCell ⟨h, 1, none⟩ (.slice yo yk yc)) ro k cr zs) ∧
    (∀ (k : Nat) (nb : Bool) (ao : Option Addr) (n ca : Nat), Box w k nb ao n ca → k ≠ g → k ≠ h → Box ((((w.setCell ⟨g, 0, none⟩ (.bool xn)).setCell ⟨g, 1, none⟩ (.slice xo xk xc)).setCell ⟨h, 0, none⟩ (.bool yn)).setCell ⟨h, 1, none⟩ (.slice yo yk yc)) k nb ao n ca) := by
  have o1 := only_set2 w g (.bool xn) (.slice xo xk xc)
  have a := hg.stored xn xo xk xc
  have b := hh.only o1 (Ne.symm hne)
  have o2 := only_set2 ((w.setCell ⟨g, 0, none⟩ (.bool xn)).setCell ⟨g, 1, none⟩ (.slice xo xk xc)) h (.bool yn) (.slice yo yk yc)
  exact ⟨a.only o2 hne, b.stored yn yo yk yc, fun B h1 h2 => Below.trans (o1.below h1) (o2.below h2), fun ro k cr zs hs => (hs.only_box hg o1).only_box b o2, fun k nb ao n ca hk h1 h2 => (hk.only o1 h1).only o2 h2⟩
theorem two_setd {w : World} {g h : Nat} {gn hn xn yn : Bool} {go ho xo yo : Option Addr} {gk gc hk hc xk xc yk yc : Nat} (hg : Box w g gn go gk gc) (hh : Box w h hn ho hk hc) (hne : g ≠ h) :
    Box ((((w.setCell ⟨g, 0, none⟩ (.bool xn)).setCell ⟨g, 1, none⟩ (.slice xo xk xc)).setCell ⟨h, 0, none⟩ (.bool yn)).setCell ⟨h, 1, none⟩ (.slice yo yk yc)).drew g xn xo xk xc ∧ Box ((((w.setCell ⟨g, 0, none⟩ (.bool xn)).setCell ⟨g, 1, none⟩ (.slice xo xk xc)).setCell ⟨h, 0, none⟩ (.bool yn)).setCell ⟨h, 1, none⟩ (.slice yo yk yc)).drew h yn yo yk yc ∧
    (∀ B, B ≤ g → B ≤ h → Below B w ((((w.setCell ⟨g, 0, none⟩ (.bool xn)).setCell ⟨g, 1, none⟩ (.slice xo xk xc)).setCell ⟨h, 0, none⟩ (.bool yn)).setCell ⟨h, 1, none⟩ (.slice yo yk yc)).drew) ∧
    (∀ (ro : Option Addr) (k cr : Nat) (zs : List Int), Sl w ro k cr zs → Sl ((((w.setCell ⟨g, 0, none⟩ (.bool xn)).setCell ⟨g, 1, none⟩ (.slice xo xk xc)).setCell ⟨h, 0, none⟩ (.bool yn)).setCell ⟨h, 1, none⟩ (.slice yo yk yc)).drew ro k cr zs) ∧
    (∀ (k : Nat) (nb : Bool) (ao : Option Addr) (n ca : Nat), Box w k nb ao n ca → k ≠ g → k ≠ h → Box ((((w.setCell ⟨g, 0, none⟩ (.bool xn)).setCell ⟨g, 1, none⟩ (.slice xo xk xc)).setCell ⟨h, 0, none⟩ (.bool yn)).setCell ⟨h, 1, none⟩ (.slice yo yk yc)).drew k nb ao n ca) := by
  obtain ⟨a, b, c, d, e⟩ := two_set (xn := xn) (xo := xo) (xk := xk) (xc := xc) (yn := yn) (yo := yo) (yk := yk) (yc := yc) hg hh hne
  exact ⟨a.drew, b.drew, fun B h1 h2 => (c B h1 h2).drew, fun ro k cr zs hs => (d ro k cr zs hs).drew, fun k nb ao n ca hk h1 h2 => (e k nb ao n ca hk h1 h2).drew⟩
theorem bn_tr {w V : World} (hs : ∀ (ro : Option Addr) (k cr : Nat) (zs : List Int), Sl w ro k cr zs → Sl V ro k cr zs) {nb : Bool} {ao : Option Addr} {n ca : Nat} {x : Int} (h : Bn w nb ao n ca x) : Bn V nb ao n ca x := ⟨h.neg, hs _ _ _ _ h.sl⟩
theorem bg_tr {w V : World} (hs : ∀ (ro : Option Addr) (k cr : Nat) (zs : List Int), Sl w ro k cr zs → Sl V ro k cr zs) {nb : Bool} {ao : Option Addr} {n ca : Nat} {x : Int} (h : Bg w nb ao n ca x) : Bg V nb ao n ca x := by
  obtain ⟨⟨zs, h1, h2⟩, h3⟩ := h
  exact ⟨⟨zs, hs _ _ _ _ h1, h2⟩, h3⟩
theorem one_set {w : World} {g : Nat} {gn xn : Bool} {go xo : Option Addr} {gk gc xk xc : Nat} (hg : Box w g gn go gk gc) :
    Box ((w.setCell ⟨g, 0, none⟩ (.bool xn)).setCell ⟨g, 1, none⟩ (.slice xo xk xc)) g xn xo xk xc ∧ (∀ B, B ≤ g → Below B w ((w.setCell ⟨g, 0, none⟩ (.bool xn)).setCell ⟨g, 1, none⟩ (.slice xo xk xc))) ∧
    (∀ (ro : Option Addr) (k cr : Nat) (zs : List Int), Sl w ro k cr zs → Sl ((w.setCell ⟨g, 0, none⟩ (.bool xn)).setCell ⟨g, 1, none⟩ (.slice xo xk xc)) ro k cr zs) ∧
    (∀ (k : Nat) (nb : Bool) (ao : Option Addr) (n ca : Nat), Box w k nb ao n ca → k ≠ g → Box ((w.setCell ⟨g, 0, none⟩ (.bool xn)).setCell ⟨g, 1, none⟩ (.slice xo xk xc)) k nb ao n ca) := by
  have o1 := only_set2 w g (.bool xn) (.slice xo xk xc)
  exact ⟨hg.stored xn xo xk xc, fun B h1 => o1.below h1, fun ro k cr zs hs => hs.only_box hg o1, fun k nb ao n ca hk h1 => hk.only o1 h1⟩
theorem boxes_five (w : World) (an xn mn : Bool) (ao xo mo : Option Addr) (ak ac xk xc mk mc : Nat) :
    ∃ W, W = ((((w.alloc (.cells #[.bool an, .slice ao ak ac] 27)).alloc (.cells #[.bool xn, .slice xo xk xc] 27)).alloc (.cells #[.bool mn, .slice mo mk mc] 27)).alloc (.cells #[.bool false, .slice none 0 0] 27)).alloc (.cells #[.bool false, .slice none 0 0] 27) ∧ Ext w W ∧
      Box W w.heap.size an ao ak ac ∧ Box W (w.heap.size + 1) xn xo xk xc ∧ Box W (w.heap.size + 2) mn mo mk mc ∧ Box W (w.heap.size + 3) false none 0 0 ∧ Box W (w.heap.size + 4) false none 0 0 ∧ W.heap.size = w.heap.size + 5 := by
  obtain ⟨W1, hW1, h1, h2, h3⟩ := box_pair w an ao ak ac xn xo xk xc
  have hsz : W1.heap.size = w.heap.size + 2 := by rw [hW1]; simp
  obtain ⟨W2, hW2, k1, k2, k3, k4, _⟩ := boxes2 W1 mn mo mk mc false none 0 0
  rw [hsz] at k2 k3 k4
  have hE : Ext W1 W2 := k1
  exact ⟨W2, by rw [hW2, hW1], h1.trans hE, h2.below hE, h3.below hE, k2, k3, k4, by rw [hW2]; simp [hsz]⟩
end Go.Proofs.YtlpclahlolhjfaaGreatDoor
