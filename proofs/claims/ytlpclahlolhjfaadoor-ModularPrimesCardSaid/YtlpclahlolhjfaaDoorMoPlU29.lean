import Derived.Test.YtlpclahlolhjfaaDoorMoPlU9
import Derived.Test.YtlpclahlolhjfaaDoorMoPlU10
import Derived.Test.YtlpclahlolhjfaaDoorMoPlU28
import Derived.Test.YtlpclahlolhjfaaDoorMoPlU27
import Derived.Test.YtlpclahlolhjfaaDoorMoPlU7
namespace Go.Proofs.YtlpclahlolhjfaaDoor
open Go Go.RowKit

def invZ (a p : Int) : Int := ((powm a.toNat (p - 2).toNat p.toNat : Nat) : Int)
theorem mr_bounds {p : Int} (h : mr p = true) : 2 ≤ p ∧ p ≤ 2147483647 := by
  unfold mr at h
  rw [Bool.and_eq_true] at h
  exact of_decide_eq_true h.1
theorem invZ_lt {a p : Int} (hp : 0 < p) : 0 ≤ invZ a p ∧ invZ a p < p := by
  have := powm_lt (a := a.toNat) (n := (p - 2).toNat) (p := p.toNat) (by omega)
  unfold invZ
  omega
theorem inverseZ (a p : Int) (w : World) (h0 : 0 ≤ a) (h1 : a < p) (hp1 : 1 < p) (hp : p ≤ 2147483647) :
    Calls Tryd.prog 17 #[.int .i64 a, .int .i64 p] w fun e w' => e = .returned (.int .i64 (invZ a p)) ∧ w = w' := by
  obtain ⟨x, rfl⟩ := Int.eq_ofNat_of_zero_le h0
  obtain ⟨q, rfl⟩ := Int.eq_ofNat_of_zero_le (show 0 ≤ p by omega)
  have := inverse_any x q w (by omega) (by omega) (by omega)
  rw [show invZ (x : Int) (q : Int) = ((powm x (q - 2) q : Nat) : Int) by unfold invZ; rw [show ((q : Int) - 2).toNat = q - 2 by omega]; rfl]
  exact this
set_option maxRecDepth 100000 in
set_option maxHeartbeats 1000000 in
theorem inv_yes (a p : Int) (w : World) (hT : Table64 w) (hp : mr p = true) (h0 : a % p ≠ 0) :
    Calls Tryd.prog 11 #[.int .i64 a, .int .i64 p] w fun e w' => e = .returned (.tuple #[.int .i64 (invZ (a % p) p), .int .i64 0]) ∧ w = w' := by
  obtain ⟨p2, p3⟩ := mr_bounds hp
  have CI := Lib.hid (isPrime_any p w hT)
  rw [hp] at CI
  have CR := Lib.hid (residue_any a p w (by omega) (by omega))
  have CV := Lib.hid (inverseZ (a % p) p w (Int.emod_nonneg a (by omega)) (Int.emod_lt_of_pos a (by omega)) (by omega) p3)
  obtain ⟨z, hz⟩ : ∃ z, a % p = z := ⟨_, rfl⟩
  rw [hz] at CR CV h0
  rw [hz]
  clear hp hT hz
  go_enter Tryd.func11, Tryd.ntmps11
  go_wp2_with fail
  refine CI.out.mono ?_
  rintro e w1 ⟨rfl, rfl⟩
  clear CI
  go_wp2_with fail
  refine CR.out.mono ?_
  rintro e w1 ⟨rfl, rfl⟩
  clear CR
  go_wp2_with fail
  refine CV.out.mono ?_
  rintro e w1 ⟨rfl, rfl⟩
  clear CV
  go_wp2
  go_ret2
  exact ⟨rfl, rfl⟩

end Go.Proofs.YtlpclahlolhjfaaDoor

namespace Go.Proofs.YtlpclahlolhjfaaDoor
/-- the next at most k numbers from p downward for which f says yes -/
def primesL (f : Nat → Bool) : Nat → Nat → List Nat
  | 0, _ => []
  | p + 1, k => if p = 0 ∨ k = 0 then [] else if f (p + 1) then (p + 1) :: primesL f p (k - 1) else primesL f p k
theorem primesL_congr {f g : Nat → Bool} : ∀ (p k : Nat), (∀ q, q ≤ p → f q = g q) → primesL f p k = primesL g p k
  | 0, _, _ => rfl
  | p + 1, k, h => by
    unfold primesL
    rw [h (p + 1) (Nat.le_refl _), primesL_congr p (k - 1) fun q hq => h q (by omega), primesL_congr p k fun q hq => h q (by omega)]
theorem primesL_zero (f : Nat → Bool) (p : Nat) : primesL f p 0 = [] := by cases p <;> simp [primesL]
theorem primesL_to {f g : Nat → Bool} {q : Nat} (hf : f (q + 1) = true) (h0 : q ≠ 0) : ∀ (d k : Nat), (∀ x, q < x → x ≤ q + 1 + d → f x = g x) → (∀ j, j + 1 ≤ k → primesL f q j = primesL g q j) → primesL f (q + 1 + d) k = primesL g (q + 1 + d) k
  | 0, k, hx, hj => by
    rw [Nat.add_zero]
    unfold primesL
    rw [← hx (q + 1) (by omega) (by omega), hf, if_pos rfl, if_pos rfl]
    by_cases hk : k = 0
    · rw [if_pos (Or.inr hk), if_pos (Or.inr hk)]
    · rw [hj (k - 1) (by omega)]
  | d + 1, k, hx, hj => by
    rw [show q + 1 + (d + 1) = (q + 1 + d) + 1 by omega]
    unfold primesL
    rw [← hx (q + 1 + d + 1) (by omega) (by omega), primesL_to hf h0 d k (fun x h1 h2 => hx x h1 (by omega)) hj,
      primesL_to hf h0 d (k - 1) (fun x h1 h2 => hx x h1 (by omega)) (fun j hj' => hj j (by omega))]
/-- the loop's round -/
theorem primesL_step {f : Nat → Bool} {p k : Nat} (hp : 2 ≤ p) (hk : k ≠ 0) : primesL f p k = if f p then p :: primesL f (p - 1) (k - 1) else primesL f (p - 1) k := by
  obtain ⟨q, rfl⟩ : ∃ q, p = q + 1 := ⟨p - 1, by omega⟩
  conv => lhs; unfold primesL
  rw [if_neg (by omega)]
  rfl
theorem primesL_stop {f : Nat → Bool} {p k : Nat} (h : p < 2 ∨ k = 0) : primesL f p k = [] := by
  cases p with
  | zero => rfl
  | succ p => unfold primesL; rw [if_pos (by omega)]
theorem primesL_len {f : Nat → Bool} : ∀ (p k : Nat), (primesL f p k).length ≤ k
  | 0, k => by simp [primesL]
  | p + 1, k => by
    unfold primesL
    split
    · simp
    · rename_i h
      split
      · have := primesL_len (f := f) p (k - 1); simp; omega
      · exact primesL_len p k

/-- one prime more in the remainder theorem: the number and the product so far -/
def crtStep (x n r p : Int) : Int := x + n * ((r % p - x % p) % p * ((powm (n % p).toNat (p - 2).toNat p.toNat : Nat) : Int) % p)
def crtN (ps : List Int) : Int := ps.foldl (· * ·) 1
def crtX : List (Int × Int) → Int → Int → Int
  | [], x, _ => x
  | (r, p) :: l, x, n => crtX l (crtStep x n r p) (n * p)
theorem crtStep_range {x n r p : Int} (hx : 0 ≤ x) (hxn : x < n) (hp : 0 < p) : 0 ≤ crtStep x n r p ∧ crtStep x n r p < n * p := by
  unfold crtStep
  generalize (r % p - x % p) % p * ((powm (n % p).toNat (p - 2).toNat p.toNat : Nat) : Int) = z
  have h1 := Int.emod_nonneg z (show p ≠ 0 by omega)
  have h2 := Int.emod_lt_of_pos z hp
  have h3 : 0 ≤ n * (z % p) := Int.mul_nonneg (by omega) h1
  have h4 : n * (z % p) ≤ n * (p - 1) := Int.mul_le_mul_of_nonneg_left (by omega) (by omega)
  rw [Int.mul_sub, Int.mul_one] at h4
  omega
/-- the number closest to 0 -/
def crtC (x n : Int) : Int := if n < 2 * x then x - n else x
end Go.Proofs.YtlpclahlolhjfaaDoor

namespace Go.Proofs.YtlpclahlolhjfaaDoor

/-- after k primes -/
def CrtAt (k : Nat) (X N : Int) : Prop := 0 ≤ X ∧ X < N ∧ N < 4294967296 ^ (k + 1)
theorem CrtAt.start : CrtAt 0 0 1 := ⟨by omega, by omega, by decide⟩
theorem CrtAt.step {k : Nat} {X N r p : Int} (h : CrtAt k X N) (hp : 0 < p) (hp1 : p ≤ 2147483647) : CrtAt (k + 1) (crtStep X N r p) (N * p) := by
  obtain ⟨h0, h1, h2⟩ := h
  obtain ⟨s0, s1⟩ := crtStep_range (r := r) h0 h1 hp
  refine ⟨s0, s1, ?_⟩
  have : N * p ≤ N * 4294967296 := Int.mul_le_mul_of_nonneg_left (by omega) (by omega)
  have e : (4294967296 : Int) ^ (k + 1 + 1) = 4294967296 ^ (k + 1) * 4294967296 := Int.pow_succ _ _
  omega
theorem CrtAt.abs {k : Nat} {X N : Int} (h : CrtAt k X N) : X.natAbs < 4294967296 ^ (k + 1) ∧ N.natAbs < 4294967296 ^ (k + 1) := by
  obtain ⟨h0, h1, h2⟩ := h
  have e : ((4294967296 ^ (k + 1) : Nat) : Int) = (4294967296 : Int) ^ (k + 1) := Int.natCast_pow _ _
  constructor <;> omega
/-- the pairs of remainders and primes -/
def crtPairs (res ps : List Int) : List (Int × Int) := res.zip ps
def crtFin (res ps : List Int) : Int := crtX (crtPairs res ps) 0 1
theorem crt_drop {res ps : List Int} {k n : Nat} (h1 : res.length = n) (h2 : ps.length = n) (hk : k < n) (X N : Int) :
    crtX ((crtPairs res ps).drop k) X N = crtX ((crtPairs res ps).drop (k + 1)) (crtStep X N (res.getD k 0) (ps.getD k 0)) (N * ps.getD k 0) := by
  have hl : k < (crtPairs res ps).length := by unfold crtPairs; rw [List.length_zip]; omega
  rw [List.drop_eq_getElem_cons hl]
  have e : (crtPairs res ps)[k] = (res.getD k 0, ps.getD k 0) := by
    simp [crtPairs, List.getD, show k < res.length by omega, show k < ps.length by omega]
  rw [e]; rfl
theorem crt_done {res ps : List Int} {n : Nat} (h1 : res.length = n) (X N : Int) : crtX ((crtPairs res ps).drop n) X N = X := by
  rw [List.drop_eq_nil_of_le (by unfold crtPairs; rw [List.length_zip]; omega)]; rfl
theorem crtN_take {ps : List Int} {k : Nat} (hk : k < ps.length) : crtN (ps.take (k + 1)) = crtN (ps.take k) * ps.getD k 0 := by
  unfold crtN
  rw [List.take_add_one, List.foldl_append, List.getElem?_eq_getElem hk]
  simp [List.getD, hk]
end Go.Proofs.YtlpclahlolhjfaaDoor

namespace Go.Proofs.YtlpclahlolhjfaaDoor

theorem mr_run {p : Nat} (h1 : 1 < p) (h2 : p ≤ 2147483647) (h : mrK p = true) : mr (p : Int) = true := by
  unfold mr
  rw [decide_eq_true (show 2 ≤ (p : Int) ∧ (p : Int) ≤ 2147483647 by omega), Bool.true_and, show ((p : Int)).toNat = p from rfl, ← mrK_eq h1 (by omega)]
  exact h
end Go.Proofs.YtlpclahlolhjfaaDoor

namespace Go.Proofs.YtlpclahlolhjfaaDoor
theorem range0 : chk 2 9998 = true := by decide +kernel
theorem range1 : chk 10000 10000 = true := by decide +kernel
theorem range2 : chk 20000 10000 = true := by decide +kernel
theorem range3 : chk 30000 10000 = true := by decide +kernel
end Go.Proofs.YtlpclahlolhjfaaDoor

namespace Go.Proofs.YtlpclahlolhjfaaDoor
theorem range4 : chk 40000 10000 = true := by decide +kernel
theorem range5 : chk 50000 10000 = true := by decide +kernel
theorem range6 : chk 60000 10000 = true := by decide +kernel
end Go.Proofs.YtlpclahlolhjfaaDoor

namespace Go.Proofs.YtlpclahlolhjfaaDoor
theorem range7 : chk 70000 10000 = true := by decide +kernel
theorem range8 : chk 80000 10000 = true := by decide +kernel
theorem range9 : chk 90000 10000 = true := by decide +kernel
theorem top_range : chkT 2147483587 61 = true := by decide +kernel
end Go.Proofs.YtlpclahlolhjfaaDoor
