import Derived.Test.YthicfkeiggcjjaaGreatDoorEcDlU18
import Derived.Test.YthicfkeiggcjjaaGreatDoorEcDlU20
import Derived.Test.YthicfkeiggcjjaaGreatDoorEcDlU16
namespace Go.Proofs.YthicfkeiggcjjaaGreatDoor
open Go Go.RowKit

def invZ (a p : Int) : Int := ((powm a.toNat (p - 2).toNat p.toNat : Nat) : Int)
theorem mr_bounds {p : Int} (h : mr p = true) : 2 ≤ p ∧ p ≤ 2147483647 := by
  unfold mr at h
  rw [Bool.and_eq_true] at h
  exact of_decide_eq_true h.1
theorem invZ_lt {a p : Int} (hp : 0 < p) : 0 ≤ invZ a p ∧ invZ a p < p := by
  have := powm_lt (a := a.toNat) (n := (p - 2).toNat) (p := p.toNat) (by omega)
  unfold invZ
  omega
theorem inverseZ (a p : Int) (w : World) (h0 : 0 ≤ a) (h1 : a < p) (hp1 : 1 < p) (hp : p ≤ 2147483647) :
    Calls Tryz.prog 43 #[.int .i64 a, .int .i64 p] w fun e w' => e = .returned (.int .i64 (invZ a p)) ∧ w = w' := by
  obtain ⟨x, rfl⟩ := Int.eq_ofNat_of_zero_le h0
  obtain ⟨q, rfl⟩ := Int.eq_ofNat_of_zero_le (show 0 ≤ p by omega)
  have := inverse_any x q w (by omega) (by omega) (by omega)
  rw [show invZ (x : Int) (q : Int) = ((powm x (q - 2) q : Nat) : Int) by unfold invZ; rw [show ((q : Int) - 2).toNat = q - 2 by omega]; rfl]
  exact this
set_option maxRecDepth 100000 in
set_option maxHeartbeats 1000000 in
theorem inv_yes (a p : Int) (w : World) (hT : Table64 w) (hp : mr p = true) (h0 : a % p ≠ 0) :
    Calls Tryz.prog 28 #[.int .i64 a, .int .i64 p] w fun e w' => e = .returned (.tuple #[.int .i64 (invZ (a % p) p), .int .i64 0]) ∧ w = w' := by
  obtain ⟨p2, p3⟩ := mr_bounds hp
  have CI := Lib.hid (isPrime_any p w hT)
  rw [hp] at CI
  have CR := Lib.hid (residue_any a p w (by omega) (by omega))
  have CV := Lib.hid (inverseZ (a % p) p w (Int.emod_nonneg a (by omega)) (Int.emod_lt_of_pos a (by omega)) (by omega) p3)
  obtain ⟨z, hz⟩ : ∃ z, a % p = z := ⟨_, rfl⟩
  rw [hz] at CR CV h0
  rw [hz]
  clear hp hT hz
  go_enter Tryz.func28, Tryz.ntmps28
  go_wp2_with fail
  refine CI.out.mono ?_
  rintro e w1 ⟨rfl, rfl⟩
  clear CI
  go_wp2_with fail
  refine CR.out.mono ?_
  rintro e w1 ⟨rfl, rfl⟩
  clear CR
  go_wp2_with fail
  refine CV.out.mono ?_
  rintro e w1 ⟨rfl, rfl⟩
  clear CV
  go_wp2
  go_ret2
  exact ⟨rfl, rfl⟩

end Go.Proofs.YthicfkeiggcjjaaGreatDoor

namespace Go.Proofs.YthicfkeiggcjjaaGreatDoor
/-- one prime more in the remainder theorem: the number and the product so far -/
def crtStep (x n r p : Int) : Int := x + n * ((r % p - x % p) % p * ((powm (n % p).toNat (p - 2).toNat p.toNat : Nat) : Int) % p)
def crtN (ps : List Int) : Int := ps.foldl (· * ·) 1
def crtX : List (Int × Int) → Int → Int → Int
  | [], x, _ => x
  | (r, p) :: l, x, n => crtX l (crtStep x n r p) (n * p)
theorem crtStep_range {x n r p : Int} (hx : 0 ≤ x) (hxn : x < n) (hp : 0 < p) : 0 ≤ crtStep x n r p ∧ crtStep x n r p < n * p := by
  unfold crtStep
  generalize (r % p - x % p) % p * ((powm (n % p).toNat (p - 2).toNat p.toNat : Nat) : Int) = z
  have h1 := Int.emod_nonneg z (show p ≠ 0 by omega)
  have h2 := Int.emod_lt_of_pos z hp
  have h3 : 0 ≤ n * (z % p) := Int.mul_nonneg (by omega) h1
  have h4 : n * (z % p) ≤ n * (p - 1) := Int.mul_le_mul_of_nonneg_left (by omega) (by omega)
  rw [Int.mul_sub, Int.mul_one] at h4
  omega
/-- the number closest to 0 -/
def crtC (x n : Int) : Int := if n < 2 * x then x - n else x
end Go.Proofs.YthicfkeiggcjjaaGreatDoor

namespace Go.Proofs.YthicfkeiggcjjaaGreatDoor

/-- after k primes -/
def CrtAt (k : Nat) (X N : Int) : Prop := 0 ≤ X ∧ X < N ∧ N < 4294967296 ^ (k + 1)
theorem CrtAt.start : CrtAt 0 0 1 := ⟨by omega, by omega, by decide⟩
theorem CrtAt.step {k : Nat} {X N r p : Int} (h : CrtAt k X N) (hp : 0 < p) (hp1 : p ≤ 2147483647) : CrtAt (k + 1) (crtStep X N r p) (N * p) := by
  obtain ⟨h0, h1, h2⟩ := h
  obtain ⟨s0, s1⟩ := crtStep_range (r := r) h0 h1 hp
  refine ⟨s0, s1, ?_⟩
  have : N * p ≤ N * 4294967296 := Int.mul_le_mul_of_nonneg_left (by omega) (by omega)
  have e : (4294967296 : Int) ^ (k + 1 + 1) = 4294967296 ^ (k + 1) * 4294967296 := Int.pow_succ _ _
  omega
theorem CrtAt.abs {k : Nat} {X N : Int} (h : CrtAt k X N) : X.natAbs < 4294967296 ^ (k + 1) ∧ N.natAbs < 4294967296 ^ (k + 1) := by
  obtain ⟨h0, h1, h2⟩ := h
  have e : ((4294967296 ^ (k + 1) : Nat) : Int) = (4294967296 : Int) ^ (k + 1) := Int.natCast_pow _ _
  constructor <;> omega
/-- the pairs of remainders and primes -/
def crtPairs (res ps : List Int) : List (Int × Int) := res.zip ps
def crtFin (res ps : List Int) : Int := crtX (crtPairs res ps) 0 1
theorem crt_drop {res ps : List Int} {k n : Nat} (h1 : res.length = n) (h2 : ps.length = n) (hk : k < n) (X N : Int) :
    crtX ((crtPairs res ps).drop k) X N = crtX ((crtPairs res ps).drop (k + 1)) (crtStep X N (res.getD k 0) (ps.getD k 0)) (N * ps.getD k 0) := by
  have hl : k < (crtPairs res ps).length := by unfold crtPairs; rw [List.length_zip]; omega
  rw [List.drop_eq_getElem_cons hl]
  have e : (crtPairs res ps)[k] = (res.getD k 0, ps.getD k 0) := by
    simp [crtPairs, List.getD, show k < res.length by omega, show k < ps.length by omega]
  rw [e]; rfl
theorem crt_done {res ps : List Int} {n : Nat} (h1 : res.length = n) (X N : Int) : crtX ((crtPairs res ps).drop n) X N = X := by
  rw [List.drop_eq_nil_of_le (by unfold crtPairs; rw [List.length_zip]; omega)]; rfl
theorem crtN_take {ps : List Int} {k : Nat} (hk : k < ps.length) : crtN (ps.take (k + 1)) = crtN (ps.take k) * ps.getD k 0 := by
  unfold crtN
  rw [List.take_add_one, List.foldl_append, List.getElem?_eq_getElem hk]
  simp [List.getD, hk]
end Go.Proofs.YthicfkeiggcjjaaGreatDoor

namespace Go.Proofs.YthicfkeiggcjjaaGreatDoor

theorem mr_run {p : Nat} (h1 : 1 < p) (h2 : p ≤ 2147483647) (h : mrK p = true) : mr (p : Int) = true := by
  unfold mr
  rw [decide_eq_true (show 2 ≤ (p : Int) ∧ (p : Int) ≤ 2147483647 by omega), Bool.true_and, show ((p : Int)).toNat = p from rfl, ← mrK_eq h1 (by omega)]
  exact h
end Go.Proofs.YthicfkeiggcjjaaGreatDoor

namespace Go.Proofs.YthicfkeiggcjjaaGreatDoor
theorem range0 : chk 2 9998 = true := by decide +kernel
theorem range1 : chk 10000 10000 = true := by decide +kernel
theorem range2 : chk 20000 10000 = true := by decide +kernel
theorem range3 : chk 30000 10000 = true := by decide +kernel
end Go.Proofs.YthicfkeiggcjjaaGreatDoor

namespace Go.Proofs.YthicfkeiggcjjaaGreatDoor
theorem range4 : chk 40000 10000 = true := by decide +kernel
theorem range5 : chk 50000 10000 = true := by decide +kernel
theorem range6 : chk 60000 10000 = true := by decide +kernel
end Go.Proofs.YthicfkeiggcjjaaGreatDoor

namespace Go.Proofs.YthicfkeiggcjjaaGreatDoor
theorem range7 : chk 70000 10000 = true := by decide +kernel
theorem range8 : chk 80000 10000 = true := by decide +kernel
theorem range9 : chk 90000 10000 = true := by decide +kernel
theorem top_range : chkT 2147483587 61 = true := by decide +kernel
end Go.Proofs.YthicfkeiggcjjaaGreatDoor

namespace Go.Proofs.YthicfkeiggcjjaaGreatDoor
theorem small_agree {p : Nat} (h2 : 2 ≤ p) (h : p < 100000) : mrB p [2, 3, 5, 7] = true ↔ noDiv p 2 := by
  have key : mrK p = !listDiv p smallPrimes := by
    rcases Nat.lt_or_ge p 10000 with h' | h'
    · exact chk_spec range0 p h2 (by omega)
    rcases Nat.lt_or_ge p 20000 with h' | h'
    · exact chk_spec range1 p (by omega) (by omega)
    rcases Nat.lt_or_ge p 30000 with h' | h'
    · exact chk_spec range2 p (by omega) (by omega)
    rcases Nat.lt_or_ge p 40000 with h' | h'
    · exact chk_spec range3 p (by omega) (by omega)
    rcases Nat.lt_or_ge p 50000 with h' | h'
    · exact chk_spec range4 p (by omega) (by omega)
    rcases Nat.lt_or_ge p 60000 with h' | h'
    · exact chk_spec range5 p (by omega) (by omega)
    rcases Nat.lt_or_ge p 70000 with h' | h'
    · exact chk_spec range6 p (by omega) (by omega)
    rcases Nat.lt_or_ge p 80000 with h' | h'
    · exact chk_spec range7 p (by omega) (by omega)
    rcases Nat.lt_or_ge p 90000 with h' | h'
    · exact chk_spec range8 p (by omega) (by omega)
    exact chk_spec range9 p (by omega) (by omega)
  rw [← mrK_eq (by omega) (by omega), key, ← small_noDiv (by omega)]
  cases listDiv p smallPrimes <;> simp
theorem top_agree {p : Nat} (h2 : 2147483587 ≤ p) (h : p ≤ 2147483647) : mrB p [2, 3, 5, 7] = true ↔ noDiv p 2 := by
  rw [← mrK_eq (by omega) (by omega), chkT_spec top_range p (by omega) (by omega), ← anyDiv_noDiv (p := p) (t := 46340) (n := 46339) rfl (by omega)]
  cases anyDiv p 46340 46339 <;> simp
/-- where the test is the trial -/
theorem mr_isP {p : Int} (h : p < 100000 ∨ 2147483587 ≤ p) : mr p = isP p := by
  refine (isP_of ?_).symm
  unfold mr
  by_cases h1 : 2 ≤ p ∧ p ≤ 2147483647
  · obtain ⟨n, rfl⟩ := Int.eq_ofNat_of_zero_le (show 0 ≤ p by omega)
    have hk : mrB n [2, 3, 5, 7] = true ↔ noDiv n 2 := by
      rcases h with h | h
      · exact small_agree (by omega) (by omega)
      · exact top_agree (by omega) (by omega)
    rw [show ((n : Int)).toNat = n from rfl, decide_eq_true h1, Bool.true_and, hk]
    exact ⟨fun h => ⟨h1.1, h1.2, h⟩, fun h => h.2.2⟩
  · rw [decide_eq_false h1, Bool.false_and]
    exact ⟨fun h => (by cases h), fun h => absurd ⟨h.1, h.2.1⟩ h1⟩
end Go.Proofs.YthicfkeiggcjjaaGreatDoor
