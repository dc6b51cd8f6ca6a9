import Derived.Test.YtagahbbjljndeaaGreatDoorMoChU19
namespace Go.Proofs.YtagahbbjljndeaaGreatDoor

/-- one round of powers by squaring -/
theorem pow_round {p r a n x : Nat} (h : r * a ^ n % p = x) :
    (if n % 2 = 1 then r * a % p else r) * (a * a % p) ^ (n / 2) % p = x := by
  have e0 : a ^ n = (a * a) ^ (n / 2) * a ^ (n % 2) := by
    rw [← Nat.pow_two, ← Nat.pow_mul, ← Nat.pow_add, Nat.div_add_mod]
  have e1 : ∀ u : Nat, u * (a * a % p) ^ (n / 2) % p = u * (a * a) ^ (n / 2) % p := fun u => by
    rw [Nat.mul_mod, ← Nat.pow_mod, ← Nat.mul_mod]
  by_cases h1 : n % 2 = 1
  · rw [if_pos h1, Nat.mul_mod, Nat.mod_mod, ← Nat.mul_mod, e1, ← h, e0, h1, Nat.pow_one]
    congr 1
    rw [Nat.mul_assoc, Nat.mul_comm a]
  · have h2 : n % 2 = 0 := by omega
    rw [if_neg h1, e1, ← h, e0, h2, Nat.pow_zero, Nat.mul_one]

/-- a to the power of n modulo p -/
def powm (a n p : Nat) : Nat := a ^ n % p
theorem powm_start (a n p : Nat) : 1 * a ^ n % p = powm a n p := by rw [Nat.one_mul]; rfl
theorem powm_lt {a n p : Nat} (h : 0 < p) : powm a n p < p := Nat.mod_lt _ h
theorem powm_end {p r a x : Nat} (h : r * a ^ 0 % p = x) (hr : r < p) : r = x := by
  rw [Nat.pow_zero, Nat.mul_one, Nat.mod_eq_of_lt hr] at h; exact h

/-- the number of factors 2 -/
def tzk : Nat → Nat → Nat
  | 0, _ => 0
  | f + 1, a => cond (Nat.beq (a % 2) 1) 0 (Nat.succ (tzk f (a / 2)))
theorem tzk_spec : ∀ (f a : Nat), a ≠ 0 → a < 2 ^ f → ∃ m, a = 2 ^ tzk f a * (2 * m + 1)
  | 0, a, h0, h => by simp at h; omega
  | f + 1, a, h0, h => by
    unfold tzk
    by_cases h1 : a % 2 = 1
    · have : Nat.beq (a % 2) 1 = true := by rw [h1]; rfl
      rw [this]
      exact ⟨a / 2, by simp; omega⟩
    · have hb : Nat.beq (a % 2) 1 = false := by
        cases hc : Nat.beq (a % 2) 1 with
        | false => rfl
        | true => exact absurd (Nat.eq_of_beq_eq_true hc) h1
      rw [hb]
      obtain ⟨m, hm⟩ := tzk_spec f (a / 2) (by omega) (by rw [Nat.pow_succ] at h; omega)
      refine ⟨m, ?_⟩
      show a = 2 ^ (tzk f (a / 2) + 1) * (2 * m + 1)
      rw [Nat.pow_succ, Nat.mul_comm (2 ^ _) 2, Nat.mul_assoc, ← hm]
      omega
theorem tz_unique {a t u m k : Nat} (h1 : a = 2 ^ t * (2 * m + 1)) (h2 : a = 2 ^ u * (2 * k + 1)) : t = u := by
  have key : ∀ {t u m k : Nat}, t < u → 2 ^ t * (2 * m + 1) = 2 ^ u * (2 * k + 1) → False := by
    intro t u m k hlt e
    obtain ⟨d, rfl⟩ : ∃ d, u = t + (d + 1) := ⟨u - t - 1, by omega⟩
    rw [Nat.pow_add, Nat.mul_assoc] at e
    have := Nat.eq_of_mul_eq_mul_left (Nat.pow_pos (by omega)) e
    rw [Nat.pow_succ, Nat.mul_comm (2 ^ d) 2, Nat.mul_assoc] at this
    omega
  rcases Nat.lt_trichotomy t u with h | h | h
  · exact (key h (h1.symm.trans h2)).elim
  · exact h
  · exact (key h (h2.symm.trans h1)).elim
theorem isTz_tzk {a t : Nat} (h : IsTz a t) (h0 : a ≠ 0) (hlt : a < 2 ^ 64) : t = tzk 64 a := by
  rcases h with ⟨h, _⟩ | ⟨_, m, hm⟩
  · exact absurd h h0
  · obtain ⟨k, hk⟩ := tzk_spec 64 a h0 hlt
    exact tz_unique hm hk

/-- do the squares come to -1 -/
def sqs (p : Nat) : Nat → Nat → Bool
  | 0, _ => false
  | k + 1, x => cond (Nat.beq x (p - 1)) true (sqs p k (x * x % p))
def passB (p b : Nat) : Bool := cond (Nat.beq (powm b ((p - 1) / 2 ^ tzk 64 (p - 1)) p) 1) true (sqs p (tzk 64 (p - 1)) (powm b ((p - 1) / 2 ^ tzk 64 (p - 1)) p))
/-- the test for all bases -/
def mrB (p : Nat) : List Nat → Bool
  | [] => true
  | b :: l => cond (Nat.beq (p % b) 0) (Nat.beq p b) (cond (passB p b) (mrB p l) false)
/-- what IsPrime answers -/
def mr (p : Int) : Bool := decide (2 ≤ p ∧ p ≤ 2147483647) && mrB p.toNat [2, 3, 5, 7]

/-- powers by squaring, as the kernel runs them -/
def pwk (p f : Nat) : Nat → Nat → Nat → Nat := Nat.rec (motive := fun _ => Nat → Nat → Nat → Nat) (fun r _ _ => r)
  (fun _ ih r a n => cond (Nat.beq n 0) r (ih (cond (Nat.beq (Nat.mod n 2) 1) (Nat.mod (Nat.mul r a) p) r) (Nat.mod (Nat.mul a a) p) (Nat.div n 2))) f
theorem beq_false {a b : Nat} (h : a ≠ b) : Nat.beq a b = false := by
  cases hc : Nat.beq a b with
  | false => rfl
  | true => exact absurd (Nat.eq_of_beq_eq_true hc) h
theorem pwk_spec (p : Nat) (hp : 0 < p) : ∀ f r a n, n < 2 ^ f → r < p → pwk p f r a n = r * a ^ n % p
  | 0, r, a, n, h, hr => by
    obtain rfl : n = 0 := by simpa using h
    rw [Nat.pow_zero, Nat.mul_one, Nat.mod_eq_of_lt hr]; rfl
  | f + 1, r, a, n, h, hr => by
    show cond (Nat.beq n 0) r (pwk p f (cond (Nat.beq (n % 2) 1) (r * a % p) r) (a * a % p) (n / 2)) = _
    by_cases h0 : n = 0
    · subst h0
      rw [Nat.pow_zero, Nat.mul_one, Nat.mod_eq_of_lt hr]; rfl
    · rw [beq_false h0]
      have ih := pwk_spec p hp f (cond (Nat.beq (n % 2) 1) (r * a % p) r) (a * a % p) (n / 2) (by rw [Nat.pow_succ] at h; omega)
        (by cases Nat.beq (n % 2) 1 with | true => exact Nat.mod_lt _ hp | false => exact hr)
      show pwk p f _ _ _ = _
      rw [ih]
      have := pow_round (p := p) (r := r) (a := a) (n := n) rfl
      by_cases h1 : n % 2 = 1
      · rw [if_pos h1] at this
        rw [h1]; exact this
      · rw [if_neg h1] at this
        rw [beq_false h1]; exact this
def tzq (f : Nat) : Nat → Nat := Nat.rec (motive := fun _ => Nat → Nat) (fun _ => 0) (fun _ ih a => cond (Nat.beq (Nat.mod a 2) 1) 0 (Nat.succ (ih (Nat.div a 2)))) f
theorem tzq_eq : ∀ f a, tzq f a = tzk f a
  | 0, _ => rfl
  | f + 1, a => by
    show cond (Nat.beq (a % 2) 1) 0 (Nat.succ (tzq f (a / 2))) = _
    rw [tzq_eq f]; rfl
def sqk (p q k : Nat) : Nat → Bool := Nat.rec (motive := fun _ => Nat → Bool) (fun _ => false) (fun _ ih x => cond (Nat.beq x q) true (ih (Nat.mod (Nat.mul x x) p))) k
theorem sqk_eq (p : Nat) : ∀ k x, sqk p (p - 1) k x = sqs p k x
  | 0, _ => rfl
  | k + 1, x => by
    show cond (Nat.beq x (p - 1)) true (sqk p (p - 1) k (x * x % p)) = _
    rw [sqk_eq p k]; rfl
def passK (p b k : Nat) : Bool := (fun x => cond (Nat.beq x 1) true (sqk p (Nat.sub p 1) k x)) (pwk p 32 1 b (Nat.div (Nat.sub p 1) (Nat.pow 2 k)))
theorem passK_eq {p b : Nat} (h1 : 1 < p) (h2 : p ≤ 4294967296) : passK p b (tzq 64 (p - 1)) = passB p b := by
  have e1 : pwk p 32 1 b ((p - 1) / 2 ^ tzq 64 (p - 1)) = powm b ((p - 1) / 2 ^ tzk 64 (p - 1)) p := by
    rw [pwk_spec p (by omega) 32 1 b _ (Nat.lt_of_le_of_lt (Nat.div_le_self _ _) (by omega)) h1, Nat.one_mul, tzq_eq]
    rfl
  show cond (Nat.beq (pwk p 32 1 b ((p - 1) / 2 ^ tzq 64 (p - 1))) 1) true (sqk p (p - 1) (tzq 64 (p - 1)) (pwk p 32 1 b ((p - 1) / 2 ^ tzq 64 (p - 1)))) = _
  rw [e1, sqk_eq, tzq_eq]
  rfl
def mrK (p : Nat) : Bool :=
  cond (Nat.beq (Nat.mod p 2) 0) (Nat.beq p 2) (cond (passK p 2 (tzq 64 (Nat.sub p 1))) (
  cond (Nat.beq (Nat.mod p 3) 0) (Nat.beq p 3) (cond (passK p 3 (tzq 64 (Nat.sub p 1))) (
  cond (Nat.beq (Nat.mod p 5) 0) (Nat.beq p 5) (cond (passK p 5 (tzq 64 (Nat.sub p 1))) (
  cond (Nat.beq (Nat.mod p 7) 0) (Nat.beq p 7) (cond (passK p 7 (tzq 64 (Nat.sub p 1))) true false)) false)) false)) false)
theorem mrK_eq {p : Nat} (h1 : 1 < p) (h2 : p ≤ 4294967296) : mrK p = mrB p [2, 3, 5, 7] := by
  unfold mrK
  rw [show Nat.sub p 1 = p - 1 from rfl, passK_eq h1 h2, passK_eq h1 h2, passK_eq h1 h2, passK_eq h1 h2]
  rfl

end Go.Proofs.YtagahbbjljndeaaGreatDoor
