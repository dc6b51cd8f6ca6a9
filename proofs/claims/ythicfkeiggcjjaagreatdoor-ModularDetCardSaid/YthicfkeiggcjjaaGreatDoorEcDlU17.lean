import Derived.Test.YthicfkeiggcjjaaGreatDoorEcDlU16
import Derived.Test.YthicfkeiggcjjaaGreatDoorEcDlU1
import Derived.Test.YthicfkeiggcjjaaGreatDoorProg
import Derived.IntWalk
import Derived.Laws.Shifts
namespace Go.Proofs.YthicfkeiggcjjaaGreatDoor

theorem prime_dvd {p d : Nat} (h : noDiv p 2) (hp : 2 ≤ p) (hd : d ∣ p) : d = 1 ∨ d = p := by
  obtain ⟨c, hc⟩ := hd
  have hd0 : d ≠ 0 := by rintro rfl; omega
  have hc0 : c ≠ 0 := by rintro rfl; omega
  by_cases h1 : d = 1
  · exact Or.inl h1
  · by_cases h2 : c = 1
    · subst h2; right; omega
    · exfalso
      rcases Nat.le_total d c with h3 | h3
      · exact h d (by omega) (by rw [hc]; exact Nat.mul_le_mul_left _ h3) (Nat.mod_eq_zero_of_dvd ⟨c, hc⟩)
      · exact h c (by omega) (by rw [hc]; exact Nat.mul_le_mul_right _ h3) (Nat.mod_eq_zero_of_dvd ⟨d, by rw [Nat.mul_comm]; exact hc⟩)
theorem prime_cop {p v : Nat} (h : noDiv p 2) (hp : 2 ≤ p) (h0 : 0 < v) (hv : v < p) : Nat.gcd v p = 1 := by
  rcases prime_dvd h hp (Nat.gcd_dvd_right v p) with h1 | h1
  · exact h1
  · exfalso
    have := Nat.gcd_le_left p h0
    omega
theorem prod_ne {p a b : Nat} (h : noDiv p 2) (hp : 2 ≤ p) (ha : 0 < a) (hap : a < p) (hb : 0 < b) (hbp : b < p) : a * b % p ≠ 0 := by
  intro hz
  have h1 : p ∣ a * b := Nat.dvd_of_mod_eq_zero hz
  have h2 : Nat.Coprime p a := by show Nat.gcd p a = 1; rw [Nat.gcd_comm]; exact prime_cop h hp ha hap
  have h3 : p ∣ b := Nat.Coprime.dvd_of_dvd_mul_left h2 h1
  have := Nat.le_of_dvd hb h3
  omega
theorem prod_neZ {p a b : Int} (h : noDiv p.toNat 2) (hp : 2 ≤ p) (ha : 0 < a) (hap : a < p) (hb : 0 < b) (hbp : b < p) : 0 < a * b % p := by
  obtain ⟨q, rfl⟩ := Int.eq_ofNat_of_zero_le (show 0 ≤ p by omega)
  obtain ⟨x, rfl⟩ := Int.eq_ofNat_of_zero_le (show 0 ≤ a by omega)
  obtain ⟨y, rfl⟩ := Int.eq_ofNat_of_zero_le (show 0 ≤ b by omega)
  have := prod_ne (p := q) (a := x) (b := y) h (by omega) (by omega) (by omega) (by omega) (by omega)
  rw [← Int.natCast_mul, ← Int.natCast_emod]
  omega
theorem neg_ne {p f : Int} (_hp : 2 ≤ p) (h0 : 0 < f) (h1 : f < p) : 0 < -f % p ∧ -f % p < p := by
  have e : -f % p = p - f := by
    have : -f = (p - f) + p * (-1) := by omega
    rw [this, Int.add_mul_emod_self_left]
    exact Int.emod_eq_of_lt (by omega) (by omega)
  omega
end Go.Proofs.YthicfkeiggcjjaaGreatDoor

namespace Go.Proofs.YthicfkeiggcjjaaGreatDoor
open Go.RowKit

theorem and_one_i64' (e : Int) : bits BinOp.and IntKind.i64 e 1 = e % 2 := by
  have h1 : (BitVec.ofInt 64 e).toNat = (e % 18446744073709551616).toNat := by
    rw [BitVec.toNat_ofInt]; rfl
  have h2 : (BitVec.ofInt 64 (1 : Int)).toNat = 1 := by decide
  show IntKind.i64.wrap ((BitVec.ofInt 64 e &&& BitVec.ofInt 64 1).toNat : Int) = _
  rw [BitVec.toNat_and, h1, h2, Nat.and_one_is_mod, IntKind.wrap_i64]
  omega

/-- between the rounds of powers by squaring: X is what comes out -/
def PowIs (r x m : Int) (p X : Nat) : Prop := ∃ r' x' m' : Nat, r = (r' : Int) ∧ x = (x' : Int) ∧ m = (m' : Int) ∧ x' ≤ 2147483648 ∧ r' < p ∧ m' < 9223372036854775808 ∧ r' * x' ^ m' % p = X
theorem PowIs.m0 {r x m : Int} {p X : Nat} (h : PowIs r x m p X) : 0 ≤ m := by obtain ⟨_, _, _, _, _, rfl, _⟩ := h; omega
theorem PowIs.done {r x : Int} {p X : Nat} (h : PowIs r x 0 p X) : r = (X : Int) := by
  obtain ⟨r', x', m', rfl, rfl, hm, _, hr, _, he⟩ := h
  obtain rfl : m' = 0 := by omega
  rw [powm_end he hr]
theorem PowIs.prods {r x m : Int} {p X : Nat} (h : PowIs r x m p X) (hp : p ≤ 2147483648) : IntKind.i64.wrap (r * x) = r * x ∧ IntKind.i64.wrap (x * x) = x * x ∧ (r * x).tmod (p : Int) = r * x % (p : Int) ∧ (x * x).tmod (p : Int) = x * x % (p : Int) := by
  obtain ⟨r', x', m', rfl, rfl, hm, hx, hr, _, he⟩ := h
  have hrx : r' * x' ≤ 2147483648 * 2147483648 := Nat.mul_le_mul (by omega) hx
  have hxx : x' * x' ≤ 2147483648 * 2147483648 := Nat.mul_le_mul hx hx
  rw [← Int.natCast_mul, ← Int.natCast_mul]
  exact ⟨IntWalk.i64_in _ (by omega), IntWalk.i64_in _ (by omega), rfl, rfl⟩
theorem PowIs.odd {r x m : Int} {p X : Nat} (h : PowIs r x m p X) (hp : 1 < p) (hm : m % 2 = 1) (hp2 : p ≤ 2147483648) : PowIs (r * x % (p : Int)) (x * x % (p : Int)) (m / 2) p X := by
  obtain ⟨r', x', m', rfl, rfl, rfl, hx, hr, hl, he⟩ := h
  have := pow_round he
  rw [if_pos (by omega)] at this
  have l1 := Nat.mod_lt (r' * x') (show 0 < p by omega)
  have l2 := Nat.mod_lt (x' * x') (show 0 < p by omega)
  exact ⟨r' * x' % p, x' * x' % p, m' / 2, rfl, rfl, rfl, by omega, l1, by omega, this⟩
theorem PowIs.even {r x m : Int} {p X : Nat} (h : PowIs r x m p X) (hp : 1 < p) (hm : m % 2 ≠ 1) (hp2 : p ≤ 2147483648) : PowIs r (x * x % (p : Int)) (m / 2) p X := by
  obtain ⟨r', x', m', rfl, rfl, rfl, hx, hr, hl, he⟩ := h
  have := pow_round he
  rw [if_neg (by omega)] at this
  have l2 := Nat.mod_lt (x' * x') (show 0 < p by omega)
  exact ⟨r', x' * x' % p, m' / 2, rfl, rfl, rfl, by omega, hr, by omega, this⟩

theorem tmod_facts (a p : Int) (h0 : 0 < p) : (a.tmod p < 0 → a.tmod p + p = a % p) ∧ (0 ≤ a.tmod p → a.tmod p = a % p) ∧ -p < a.tmod p ∧ a.tmod p < p := by
  have h1 := Int.emod_nonneg a (show p ≠ 0 by omega)
  have h2 := Int.emod_lt_of_pos a h0
  rw [Int.tmod_eq_emod]
  split
  · omega
  · rename_i h
    have : a % p ≠ 0 := fun e => h (Or.inr (Int.dvd_of_emod_eq_zero e))
    have e3 : (p.natAbs : Int) = p := by omega
    omega

set_option maxRecDepth 100000 in
set_option maxHeartbeats 1000000 in
theorem residue_any (a p : Int) (w : World) (h0 : 0 < p) (hp : p ≤ 2147483648) :
    Calls Tryz.prog 38 #[.int .i64 a, .int .i64 p] w fun e w' => e = .returned (.int .i64 (a % p)) ∧ w = w' := by
  obtain ⟨f1, f2, f3, f4⟩ := tmod_facts a p h0
  obtain ⟨z, hz⟩ : ∃ z, a % p = z := ⟨_, rfl⟩
  obtain ⟨t, ht⟩ : ∃ t, a.tmod p = t := ⟨_, rfl⟩
  rw [hz] at f1 f2 ⊢
  rw [ht] at f1 f2 f3 f4
  have hw := IntWalk.i64_in t (by omega)
  have hw2 := IntWalk.i64_in (t + p) (by omega)
  clear hz
  by_cases hn : t < 0
  · have f := f1 hn
    rw [f] at hw2
    clear f1 f2
    go_enter Tryz.func38, Tryz.ntmps38
    go_wp2
    go_ret
    exact ⟨rfl, rfl⟩
  · obtain rfl := f2 (by omega)
    clear f1 f2
    go_enter Tryz.func38, Tryz.ntmps38
    go_wp2
    go_ret
    exact ⟨rfl, rfl⟩

set_option maxRecDepth 100000 in
set_option maxHeartbeats 1000000 in
theorem refMod_any (a p : Int) (w : World) (h0 : 0 < p) (hp : p ≤ 2147483648) :
    Calls Tryz.prog 27 #[.int .i64 a, .int .i64 p] w fun e w' => e = .returned (.int .i64 (a % p)) ∧ w = w' := by
  obtain ⟨f1, f2, f3, f4⟩ := tmod_facts a p h0
  obtain ⟨z, hz⟩ : ∃ z, a % p = z := ⟨_, rfl⟩
  obtain ⟨t, ht⟩ : ∃ t, a.tmod p = t := ⟨_, rfl⟩
  rw [hz] at f1 f2 ⊢
  rw [ht] at f1 f2 f3 f4
  have hw := IntWalk.i64_in t (by omega)
  have hw2 := IntWalk.i64_in (t + p) (by omega)
  clear hz
  by_cases hn : t < 0
  · have f := f1 hn
    rw [f] at hw2
    clear f1 f2
    go_enter Tryz.func27, Tryz.ntmps27
    go_wp2
    go_ret
    exact ⟨rfl, rfl⟩
  · obtain rfl := f2 (by omega)
    clear f1 f2
    go_enter Tryz.func27, Tryz.ntmps27
    go_wp2
    go_ret
    exact ⟨rfl, rfl⟩

set_option maxRecDepth 100000 in
set_option maxHeartbeats 2000000 in
theorem mpower_any (a n p : Nat) (w : World) (ha : a ≤ 2147483648) (hp1 : 1 < p) (hp : p ≤ 2147483648) (hn : n < 9223372036854775808) :
    Calls Tryz.prog 64 #[.int .i64 (a : Int), .int .i64 (n : Int), .int .i64 (p : Int)] w fun e w' => e = .returned (.int .i64 ((powm a n p : Nat) : Int)) ∧ w = w' := by
  obtain ⟨X, hX⟩ : ∃ X : Nat, powm a n p = X := ⟨_, rfl⟩
  have HS : PowIs 1 a n p X := ⟨1, a, n, rfl, rfl, rfl, ha, hp1, hn, (powm_start a n p).trans hX⟩
  rw [hX]
  have HP := Lib.hid (show 1 < p ∧ p ≤ 2147483648 from ⟨hp1, hp⟩)
  obtain ⟨pz, hpz⟩ : ∃ pz : Int, (p : Int) = pz := ⟨_, rfl⟩
  have HPZ := Lib.hid hpz
  have hpz0 : 0 < pz := by omega
  rw [hpz]
  clear hX hpz ha hp1 hp hn
  go_enter Tryz.func64, Tryz.ntmps64
  go_wp2
  go_loopw [0, 1, 7] (fun av nv rv wr => ∃ x m r : Int, av = .int .i64 x ∧ nv = .int .i64 m ∧ rv = .int .i64 r ∧ PowIs r x m p X ∧ w = wr)
    (fun _ nv _ _ => (intOf nv).toNat)
  case atStart => exact ⟨_, _, 1, rfl, rfl, rfl, HS, rfl⟩
  case round =>
    obtain ⟨x, m, r, rfl, rfl, rfl, HI, rfl⟩ := hrel
    clear HS
    have hm0 := HI.m0
    by_cases h0 : m = 0
    · subst h0
      go_wp2
      go_ret
      exact ⟨by rw [HI.done]; rfl, rfl⟩
    · have hm1 : 0 < m := by omega
      obtain ⟨e1, e2, e3, e4⟩ := HI.prods HP.out.2
      rw [HPZ.out] at e3 e4
      have hand := and_one_i64' m
      have hmh : (m : Int) / 2 = m / 2 := rfl
      by_cases hodd : m % 2 = 1
      · have HR := HI.odd HP.out.1 hodd HP.out.2
        rw [hodd] at hand
        rw [HPZ.out] at HR
        obtain ⟨q1, hq1⟩ : ∃ q1, r * x % pz = q1 := ⟨_, rfl⟩
        obtain ⟨q2, hq2⟩ : ∃ q2, x * x % pz = q2 := ⟨_, rfl⟩
        rw [hq1] at e3 HR
        rw [hq2] at e4 HR
        have HRR := Lib.hid HR
        have HMS := Lib.hid (show 0 ≤ m / 2 ∧ m / 2 < m by omega)
        clear hmh hodd hm0 HR hq1 hq2 HI h0
        go_wp2
        go_roundw
        case rel => exact ⟨q2, m / 2, q1, rfl, rfl, rfl, HRR.out, trivial⟩
        case measure => have := HMS.out; simp [intOf]; omega
      · have HR := HI.even HP.out.1 hodd HP.out.2
        rw [show m % 2 = 0 by omega] at hand
        rw [HPZ.out] at HR
        obtain ⟨q2, hq2⟩ : ∃ q2, x * x % pz = q2 := ⟨_, rfl⟩
        rw [hq2] at e4 HR
        have HRR := Lib.hid HR
        have HMS := Lib.hid (show 0 ≤ m / 2 ∧ m / 2 < m by omega)
        clear hmh hodd hm0 HR hq2 HI h0
        go_wp2
        go_roundw
        case rel => exact ⟨q2, m / 2, r, rfl, rfl, rfl, HRR.out, trivial⟩
        case measure => have := HMS.out; simp [intOf]; omega
end Go.Proofs.YthicfkeiggcjjaaGreatDoor
