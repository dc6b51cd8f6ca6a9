import Derived.Test.YthicfkeiggcjjaaGreatDoorEcDlU2
namespace Go.Proofs.YthicfkeiggcjjaaGreatDoor

/-- one round of powers by squaring -/
theorem pow_round {p r a n x : Nat} (h : r * a ^ n % p = x) :
    (if n % 2 = 1 then r * a % p else r) * (a * a % p) ^ (n / 2) % p = x := by
  have e0 : a ^ n = (a * a) ^ (n / 2) * a ^ (n % 2) := by
    rw [← Nat.pow_two, ← Nat.pow_mul, ← Nat.pow_add, Nat.div_add_mod]
  have e1 : ∀ u : Nat, u * (a * a % p) ^ (n / 2) % p = u * (a * a) ^ (n / 2) % p := fun u => by
    rw [Nat.mul_mod, ← Nat.pow_mod, ← Nat.mul_mod]
  by_cases h1 : n % 2 = 1
  · rw [if_pos h1, Nat.mul_mod, Nat.mod_mod, ← Nat.mul_mod, e1, ← h, e0, h1, Nat.pow_one]
    congr 1
    rw [Nat.mul_assoc, Nat.mul_comm a]
  · have h2 : n % 2 = 0 := by omega
    rw [if_neg h1, e1, ← h, e0, h2, Nat.pow_zero, Nat.mul_one]

/-- a to the power of n modulo p -/
def powm (a n p : Nat) : Nat := a ^ n % p
theorem powm_start (a n p : Nat) : 1 * a ^ n % p = powm a n p := by rw [Nat.one_mul]; rfl
theorem powm_lt {a n p : Nat} (h : 0 < p) : powm a n p < p := Nat.mod_lt _ h
theorem powm_end {p r a x : Nat} (h : r * a ^ 0 % p = x) (hr : r < p) : r = x := by
  rw [Nat.pow_zero, Nat.mul_one, Nat.mod_eq_of_lt hr] at h; exact h

/-- the number of factors 2 -/
def tzk : Nat → Nat → Nat
  | 0, _ => 0
  | f + 1, a => cond (Nat.beq (a % 2) 1) 0 (Nat.succ (tzk f (a / 2)))
theorem tzk_spec : ∀ (f a : Nat), a ≠ 0 → a < 2 ^ f → ∃ m, a = 2 ^ tzk f a * (2 * m + 1)
  | 0, a, h0, h => by simp at h; omega
  | f + 1, a, h0, h => by
    unfold tzk
    by_cases h1 : a % 2 = 1
    · have : Nat.beq (a % 2) 1 = true := by rw [h1]; rfl
      rw [this]
      exact ⟨a / 2, by simp; omega⟩
    · have hb : Nat.beq (a % 2) 1 = false := by
        cases hc : Nat.beq (a % 2) 1 with
        | false => rfl
        | true => exact absurd (Nat.eq_of_beq_eq_true hc) h1
      rw [hb]
      obtain ⟨m, hm⟩ := tzk_spec f (a / 2) (by omega) (by rw [Nat.pow_succ] at h; omega)
      refine ⟨m, ?_⟩
      show a = 2 ^ (tzk f (a / 2) + 1) * (2 * m + 1)
      rw [Nat.pow_succ, Nat.mul_comm (2 ^ _) 2, Nat.mul_assoc, ← hm]
      omega
theorem tz_unique {a t u m k : Nat} (h1 : a = 2 ^ t * (2 * m + 1)) (h2 : a = 2 ^ u * (2 * k + 1)) : t = u := by
  have key : ∀ {t u m k : Nat}, t < u → 2 ^ t * (2 * m + 1) = 2 ^ u * (2 * k + 1) → False := by
    intro t u m k hlt e
    obtain ⟨d, rfl⟩ : ∃ d, u = t + (d + 1) := ⟨u - t - 1, by omega⟩
    rw [Nat.pow_add, Nat.mul_assoc] at e
    have := Nat.eq_of_mul_eq_mul_left (Nat.pow_pos (by omega)) e
    rw [Nat.pow_succ, Nat.mul_comm (2 ^ d) 2, Nat.mul_assoc] at this
    omega
  rcases Nat.lt_trichotomy t u with h | h | h
  · exact (key h (h1.symm.trans h2)).elim
  · exact h
  · exact (key h (h2.symm.trans h1)).elim
theorem isTz_tzk {a t : Nat} (h : IsTz a t) (h0 : a ≠ 0) (hlt : a < 2 ^ 64) : t = tzk 64 a := by
  rcases h with ⟨h, _⟩ | ⟨_, m, hm⟩
  · exact absurd h h0
  · obtain ⟨k, hk⟩ := tzk_spec 64 a h0 hlt
    exact tz_unique hm hk

/-- do the squares come to -1 -/
def sqs (p : Nat) : Nat → Nat → Bool
  | 0, _ => false
  | k + 1, x => cond (Nat.beq x (p - 1)) true (sqs p k (x * x % p))
def passB (p b : Nat) : Bool := cond (Nat.beq (powm b ((p - 1) / 2 ^ tzk 64 (p - 1)) p) 1) true (sqs p (tzk 64 (p - 1)) (powm b ((p - 1) / 2 ^ tzk 64 (p - 1)) p))
/-- the test for all bases -/
def mrB (p : Nat) : List Nat → Bool
  | [] => true
  | b :: l => cond (Nat.beq (p % b) 0) (Nat.beq p b) (cond (passB p b) (mrB p l) false)
/-- what IsPrime answers -/
def mr (p : Int) : Bool := decide (2 ≤ p ∧ p ≤ 2147483647) && mrB p.toNat [2, 3, 5, 7]

/-- has p no divisor from d on up to its root: what the reference's loop finds -/
def noDiv (p d : Nat) : Prop := ∀ e, d ≤ e → e * e ≤ p → p % e ≠ 0
open Classical in
noncomputable def isP (p : Int) : Bool := decide (2 ≤ p ∧ p ≤ 2147483647 ∧ noDiv p.toNat 2)
open Classical in
theorem isP_iff {p : Int} : isP p = true ↔ 2 ≤ p ∧ p ≤ 2147483647 ∧ noDiv p.toNat 2 := by unfold isP; exact decide_eq_true_iff
theorem isP_of {p : Int} {b : Bool} (h : b = true ↔ 2 ≤ p ∧ p ≤ 2147483647 ∧ noDiv p.toNat 2) : isP p = b := by
  cases b with
  | true => exact isP_iff.2 (h.1 rfl)
  | false => cases hc : isP p with | false => rfl | true => exact absurd (h.2 (isP_iff.1 hc)) (by simp)


/-- a divisor d with d * d <= p -/
def stl (p d : Nat) : Bool := cond (Nat.ble (Nat.mul d d) p) (Nat.beq (Nat.mod p d) 0) false
/-- .. among the n numbers that end at t -/
def anyDiv (p t n : Nat) : Bool := Nat.rec (motive := fun _ => Bool) false (fun k ih => cond (stl p (Nat.sub t k)) true ih) n
theorem stl_iff {p d : Nat} : stl p d = true ↔ d * d ≤ p ∧ p % d = 0 := by
  unfold stl
  show cond (Nat.ble (d * d) p) (Nat.beq (p % d) 0) false = true ↔ _
  by_cases h1 : d * d ≤ p
  · rw [Nat.ble_eq_true_of_le h1]
    show Nat.beq (p % d) 0 = true ↔ _
    constructor
    · intro h; exact ⟨h1, Nat.eq_of_beq_eq_true h⟩
    · intro h; rw [h.2]; rfl
  · have : Nat.ble (d * d) p = false := by
      cases hc : Nat.ble (d * d) p with
      | false => rfl
      | true => exact absurd (Nat.le_of_ble_eq_true hc) h1
    rw [this]
    simp [h1]
theorem anyDiv_iff (p t : Nat) : ∀ n, anyDiv p t n = true ↔ ∃ k, k < n ∧ (t - k) * (t - k) ≤ p ∧ p % (t - k) = 0
  | 0 => by simp [anyDiv]
  | n + 1 => by
    have ih := anyDiv_iff p t n
    show cond (stl p (Nat.sub t n)) true (anyDiv p t n) = true ↔ _
    cases hc : stl p (Nat.sub t n) with
    | true => exact ⟨fun _ => ⟨n, Nat.lt_succ_self n, stl_iff.1 hc⟩, fun _ => rfl⟩
    | false =>
      rw [show cond false true (anyDiv p t n) = anyDiv p t n from rfl, ih]
      constructor
      · rintro ⟨k, hk, h⟩; exact ⟨k, by omega, h⟩
      · rintro ⟨k, hk, h⟩
        rcases Nat.lt_or_ge k n with h2 | h2
        · exact ⟨k, h2, h⟩
        · obtain rfl : k = n := by omega
          rw [show stl p (Nat.sub t k) = true from stl_iff.2 h] at hc
          cases hc
theorem anyDiv_noDiv {p t n : Nat} (ht : t = n + 1) (hp : p < (t + 1) * (t + 1)) : anyDiv p t n = false ↔ noDiv p 2 := by
  constructor
  · intro h e he hee h0
    have hle : e ≤ t := by
      rcases Nat.lt_or_ge t e with h | h
      · have := Nat.mul_le_mul (show t + 1 ≤ e from h) (show t + 1 ≤ e from h); omega
      · exact h
    have := (anyDiv_iff p t n).2 ⟨t - e, by omega, by rw [show t - (t - e) = e by omega]; exact ⟨hee, h0⟩⟩
    rw [h] at this
    cases this
  · intro h
    cases hc : anyDiv p t n with
    | false => rfl
    | true =>
      obtain ⟨k, hk, h1, h2⟩ := (anyDiv_iff p t n).1 hc
      exact absurd h2 (h (t - k) (by omega) h1)

/-- powers by squaring, as the kernel runs them -/
def pwk (p f : Nat) : Nat → Nat → Nat → Nat := Nat.rec (motive := fun _ => Nat → Nat → Nat → Nat) (fun r _ _ => r)
  (fun _ ih r a n => cond (Nat.beq n 0) r (ih (cond (Nat.beq (Nat.mod n 2) 1) (Nat.mod (Nat.mul r a) p) r) (Nat.mod (Nat.mul a a) p) (Nat.div n 2))) f
theorem beq_false {a b : Nat} (h : a ≠ b) : Nat.beq a b = false := by
  cases hc : Nat.beq a b with
  | false => rfl
  | true => exact absurd (Nat.eq_of_beq_eq_true hc) h
theorem pwk_spec (p : Nat) (hp : 0 < p) : ∀ f r a n, n < 2 ^ f → r < p → pwk p f r a n = r * a ^ n % p
  | 0, r, a, n, h, hr => by
    obtain rfl : n = 0 := by simpa using h
    rw [Nat.pow_zero, Nat.mul_one, Nat.mod_eq_of_lt hr]; rfl
  | f + 1, r, a, n, h, hr => by
    show cond (Nat.beq n 0) r (pwk p f (cond (Nat.beq (n % 2) 1) (r * a % p) r) (a * a % p) (n / 2)) = _
    by_cases h0 : n = 0
    · subst h0
      rw [Nat.pow_zero, Nat.mul_one, Nat.mod_eq_of_lt hr]; rfl
    · rw [beq_false h0]
      have ih := pwk_spec p hp f (cond (Nat.beq (n % 2) 1) (r * a % p) r) (a * a % p) (n / 2) (by rw [Nat.pow_succ] at h; omega)
        (by cases Nat.beq (n % 2) 1 with | true => exact Nat.mod_lt _ hp | false => exact hr)
      show pwk p f _ _ _ = _
      rw [ih]
      have := pow_round (p := p) (r := r) (a := a) (n := n) rfl
      by_cases h1 : n % 2 = 1
      · rw [if_pos h1] at this
        rw [h1]; exact this
      · rw [if_neg h1] at this
        rw [beq_false h1]; exact this
def tzq (f : Nat) : Nat → Nat := Nat.rec (motive := fun _ => Nat → Nat) (fun _ => 0) (fun _ ih a => cond (Nat.beq (Nat.mod a 2) 1) 0 (Nat.succ (ih (Nat.div a 2)))) f
theorem tzq_eq : ∀ f a, tzq f a = tzk f a
  | 0, _ => rfl
  | f + 1, a => by
    show cond (Nat.beq (a % 2) 1) 0 (Nat.succ (tzq f (a / 2))) = _
    rw [tzq_eq f]; rfl
def sqk (p q k : Nat) : Nat → Bool := Nat.rec (motive := fun _ => Nat → Bool) (fun _ => false) (fun _ ih x => cond (Nat.beq x q) true (ih (Nat.mod (Nat.mul x x) p))) k
theorem sqk_eq (p : Nat) : ∀ k x, sqk p (p - 1) k x = sqs p k x
  | 0, _ => rfl
  | k + 1, x => by
    show cond (Nat.beq x (p - 1)) true (sqk p (p - 1) k (x * x % p)) = _
    rw [sqk_eq p k]; rfl
def passK (p b k : Nat) : Bool := (fun x => cond (Nat.beq x 1) true (sqk p (Nat.sub p 1) k x)) (pwk p 32 1 b (Nat.div (Nat.sub p 1) (Nat.pow 2 k)))
theorem passK_eq {p b : Nat} (h1 : 1 < p) (h2 : p ≤ 4294967296) : passK p b (tzq 64 (p - 1)) = passB p b := by
  have e1 : pwk p 32 1 b ((p - 1) / 2 ^ tzq 64 (p - 1)) = powm b ((p - 1) / 2 ^ tzk 64 (p - 1)) p := by
    rw [pwk_spec p (by omega) 32 1 b _ (Nat.lt_of_le_of_lt (Nat.div_le_self _ _) (by omega)) h1, Nat.one_mul, tzq_eq]
    rfl
  show cond (Nat.beq (pwk p 32 1 b ((p - 1) / 2 ^ tzq 64 (p - 1))) 1) true (sqk p (p - 1) (tzq 64 (p - 1)) (pwk p 32 1 b ((p - 1) / 2 ^ tzq 64 (p - 1)))) = _
  rw [e1, sqk_eq, tzq_eq]
  rfl
def mrK (p : Nat) : Bool :=
  cond (Nat.beq (Nat.mod p 2) 0) (Nat.beq p 2) (cond (passK p 2 (tzq 64 (Nat.sub p 1))) (
  cond (Nat.beq (Nat.mod p 3) 0) (Nat.beq p 3) (cond (passK p 3 (tzq 64 (Nat.sub p 1))) (
  cond (Nat.beq (Nat.mod p 5) 0) (Nat.beq p 5) (cond (passK p 5 (tzq 64 (Nat.sub p 1))) (
  cond (Nat.beq (Nat.mod p 7) 0) (Nat.beq p 7) (cond (passK p 7 (tzq 64 (Nat.sub p 1))) true false)) false)) false)) false)
theorem mrK_eq {p : Nat} (h1 : 1 < p) (h2 : p ≤ 4294967296) : mrK p = mrB p [2, 3, 5, 7] := by
  unfold mrK
  rw [show Nat.sub p 1 = p - 1 from rfl, passK_eq h1 h2, passK_eq h1 h2, passK_eq h1 h2, passK_eq h1 h2]
  rfl

/-- .. among a list that ascends -/
noncomputable def listDiv (p : Nat) (l : List Nat) : Bool := List.rec (motive := fun _ => Bool) false (fun q _ ih => cond (Nat.ble (Nat.mul q q) p) (cond (Nat.beq (Nat.mod p q) 0) true ih) false) l
theorem listDiv_true (p : Nat) : ∀ l, listDiv p l = true → ∃ q ∈ l, q * q ≤ p ∧ p % q = 0
  | [], h => by cases h
  | q :: l, h => by
    have h : cond (Nat.ble (q * q) p) (cond (Nat.beq (p % q) 0) true (listDiv p l)) false = true := h
    cases h1 : Nat.ble (q * q) p with
    | false => rw [h1] at h; cases h
    | true =>
      rw [h1] at h
      cases h2 : Nat.beq (p % q) 0 with
      | true => exact ⟨q, List.mem_cons_self, Nat.le_of_ble_eq_true h1, Nat.eq_of_beq_eq_true h2⟩
      | false =>
        rw [h2] at h
        obtain ⟨x, hx, h⟩ := listDiv_true p l h
        exact ⟨x, List.mem_cons_of_mem _ hx, h⟩
theorem listDiv_false (p : Nat) : ∀ l, l.Pairwise (· ≤ ·) → listDiv p l = false → ∀ q ∈ l, q * q ≤ p → p % q ≠ 0
  | [], _, _ => fun q hq => by cases hq
  | q :: l, hs, h => by
    have h : cond (Nat.ble (q * q) p) (cond (Nat.beq (p % q) 0) true (listDiv p l)) false = false := h
    have hs := List.pairwise_cons.1 hs
    cases h1 : Nat.ble (q * q) p with
    | false =>
      intro x hx hxx
      have hq : ¬ q * q ≤ p := fun hle => by rw [Nat.ble_eq_true_of_le hle] at h1; cases h1
      rcases List.mem_cons.1 hx with rfl | hx
      · exact absurd hxx hq
      · have := Nat.mul_le_mul (hs.1 x hx) (hs.1 x hx)
        omega
    | true =>
      rw [h1] at h
      cases h2 : Nat.beq (p % q) 0 with
      | true => rw [h2] at h; cases h
      | false =>
        rw [h2] at h
        intro x hx hxx
        rcases List.mem_cons.1 hx with rfl | hx
        · intro h0; rw [h0] at h2; cases h2
        · exact listDiv_false p l hs.2 h x hx hxx
def smallPrimes : List Nat := [2, 3, 5, 7, 11, 13, 17, 19, 23, 29, 31, 37, 41, 43, 47, 53, 59, 61, 67, 71, 73, 79, 83, 89, 97, 101, 103, 107, 109, 113, 127, 131, 137, 139, 149, 151, 157, 163, 167, 173, 179, 181, 191, 193, 197, 199, 211, 223, 227, 229, 233, 239, 241, 251, 257, 263, 269, 271, 277, 281, 283, 293, 307, 311, 313, 317]
theorem small_all : ∀ n < 320, 2 ≤ n → (smallPrimes.any fun q => Nat.beq (n % q) 0) = true := by decide +kernel
theorem small_ge : ∀ q ∈ smallPrimes, 2 ≤ q := by decide +kernel
theorem small_sorted : smallPrimes.Pairwise (· ≤ ·) := by decide +kernel
theorem small_noDiv {p : Nat} (hp : p < 102400) : listDiv p smallPrimes = false ↔ noDiv p 2 := by
  constructor
  · intro h e he hee h0
    have h320 : e < 320 := by
      rcases Nat.lt_or_ge e 320 with h | h
      · exact h
      · have := Nat.mul_le_mul h h; omega
    obtain ⟨q, hq, hqe⟩ := List.any_eq_true.1 (small_all e h320 he)
    have hqe := Nat.eq_of_beq_eq_true hqe
    have hd : q ∣ e := Nat.dvd_of_mod_eq_zero hqe
    have hle : q ≤ e := Nat.le_of_dvd (by omega) hd
    have hpe : q ∣ p := Nat.dvd_trans hd (Nat.dvd_of_mod_eq_zero h0)
    exact listDiv_false p _ small_sorted h q hq (Nat.le_trans (Nat.mul_le_mul hle hle) hee) (Nat.mod_eq_zero_of_dvd hpe)
  · intro h
    cases hc : listDiv p smallPrimes with
    | false => rfl
    | true =>
      obtain ⟨q, hq, h1, h2⟩ := listDiv_true p _ hc
      exact absurd h2 (h q (small_ge q hq) h1)
/-- exactly one of the two -/
def agree (a b ih : Bool) : Bool := cond a (cond b false ih) (cond b ih false)
theorem agree_split {a b ih : Bool} (h : agree a b ih = true) : a = !b ∧ ih = true := by
  cases a <;> cases b <;> simp [agree] at h <;> exact ⟨rfl, h⟩
noncomputable def chk (lo n : Nat) : Bool := Nat.rec (motive := fun _ => Bool) true (fun k ih => agree (mrK (Nat.add lo k)) (listDiv (Nat.add lo k) smallPrimes) ih) n
theorem chk_spec {lo : Nat} : ∀ {n : Nat}, chk lo n = true → ∀ p, lo ≤ p → p < lo + n → mrK p = !listDiv p smallPrimes
  | 0, _, p, h1, h2 => by omega
  | n + 1, h, p, h1, h2 => by
    obtain ⟨h3, h4⟩ := agree_split (show agree (mrK (lo + n)) (listDiv (lo + n) smallPrimes) (chk lo n) = true from h)
    rcases Nat.lt_or_ge p (lo + n) with h5 | h5
    · exact chk_spec h4 p h1 h5
    · obtain rfl : p = lo + n := by omega
      exact h3
def chkT (lo n : Nat) : Bool := Nat.rec (motive := fun _ => Bool) true (fun k ih => agree (mrK (Nat.add lo k)) (anyDiv (Nat.add lo k) 46340 46339) ih) n
theorem chkT_spec {lo : Nat} : ∀ {n : Nat}, chkT lo n = true → ∀ p, lo ≤ p → p < lo + n → mrK p = !anyDiv p 46340 46339
  | 0, _, p, h1, h2 => by omega
  | n + 1, h, p, h1, h2 => by
    obtain ⟨h3, h4⟩ := agree_split (show agree (mrK (lo + n)) (anyDiv (lo + n) 46340 46339) (chkT lo n) = true from h)
    rcases Nat.lt_or_ge p (lo + n) with h5 | h5
    · exact chkT_spec h4 p h1 h5
    · obtain rfl : p = lo + n := by omega
      exact h3
end Go.Proofs.YthicfkeiggcjjaaGreatDoor
