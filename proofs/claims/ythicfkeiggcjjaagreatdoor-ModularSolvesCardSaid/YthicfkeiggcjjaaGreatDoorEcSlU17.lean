import Derived.Test.YthicfkeiggcjjaaGreatDoorEcSlU16
import Derived.Test.YthicfkeiggcjjaaGreatDoorEcSlU1
import Derived.Test.YthicfkeiggcjjaaGreatDoorProg
import Derived.IntWalk
import Derived.Laws.Shifts
import Derived.Test.YthicfkeiggcjjaaGreatDoorEcSlU4
namespace Go.Proofs.YthicfkeiggcjjaaGreatDoor

theorem prime_dvd {p d : Nat} (h : noDiv p 2) (hp : 2 ≤ p) (hd : d ∣ p) : d = 1 ∨ d = p := by
  obtain ⟨c, hc⟩ := hd
  have hd0 : d ≠ 0 := by rintro rfl; omega
  have hc0 : c ≠ 0 := by rintro rfl; omega
  by_cases h1 : d = 1
  · exact Or.inl h1
  · by_cases h2 : c = 1
    · subst h2; right; omega
    · exfalso
      rcases Nat.le_total d c with h3 | h3
      · exact h d (by omega) (by rw [hc]; exact Nat.mul_le_mul_left _ h3) (Nat.mod_eq_zero_of_dvd ⟨c, hc⟩)
      · exact h c (by omega) (by rw [hc]; exact Nat.mul_le_mul_right _ h3) (Nat.mod_eq_zero_of_dvd ⟨d, by rw [Nat.mul_comm]; exact hc⟩)
theorem prime_cop {p v : Nat} (h : noDiv p 2) (hp : 2 ≤ p) (h0 : 0 < v) (hv : v < p) : Nat.gcd v p = 1 := by
  rcases prime_dvd h hp (Nat.gcd_dvd_right v p) with h1 | h1
  · exact h1
  · exfalso
    have := Nat.gcd_le_left p h0
    omega
theorem prod_ne {p a b : Nat} (h : noDiv p 2) (hp : 2 ≤ p) (ha : 0 < a) (hap : a < p) (hb : 0 < b) (hbp : b < p) : a * b % p ≠ 0 := by
  intro hz
  have h1 : p ∣ a * b := Nat.dvd_of_mod_eq_zero hz
  have h2 : Nat.Coprime p a := by show Nat.gcd p a = 1; rw [Nat.gcd_comm]; exact prime_cop h hp ha hap
  have h3 : p ∣ b := Nat.Coprime.dvd_of_dvd_mul_left h2 h1
  have := Nat.le_of_dvd hb h3
  omega
end Go.Proofs.YthicfkeiggcjjaaGreatDoor

namespace Go.Proofs.YthicfkeiggcjjaaGreatDoor
open Go.RowKit

theorem and_one_i64' (e : Int) : bits BinOp.and IntKind.i64 e 1 = e % 2 := by
  have h1 : (BitVec.ofInt 64 e).toNat = (e % 18446744073709551616).toNat := by
    rw [BitVec.toNat_ofInt]; rfl
  have h2 : (BitVec.ofInt 64 (1 : Int)).toNat = 1 := by decide
  show IntKind.i64.wrap ((BitVec.ofInt 64 e &&& BitVec.ofInt 64 1).toNat : Int) = _
  rw [BitVec.toNat_and, h1, h2, Nat.and_one_is_mod, IntKind.wrap_i64]
  omega

/-- between the rounds of powers by squaring: X is what comes out -/
def PowIs (r x m : Int) (p X : Nat) : Prop := ∃ r' x' m' : Nat, r = (r' : Int) ∧ x = (x' : Int) ∧ m = (m' : Int) ∧ x' ≤ 2147483648 ∧ r' < p ∧ m' < 9223372036854775808 ∧ r' * x' ^ m' % p = X
theorem PowIs.m0 {r x m : Int} {p X : Nat} (h : PowIs r x m p X) : 0 ≤ m := by obtain ⟨_, _, _, _, _, rfl, _⟩ := h; omega
theorem PowIs.done {r x : Int} {p X : Nat} (h : PowIs r x 0 p X) : r = (X : Int) := by
  obtain ⟨r', x', m', rfl, rfl, hm, _, hr, _, he⟩ := h
  obtain rfl : m' = 0 := by omega
  rw [powm_end he hr]
theorem PowIs.prods {r x m : Int} {p X : Nat} (h : PowIs r x m p X) (hp : p ≤ 2147483648) : IntKind.i64.wrap (r * x) = r * x ∧ IntKind.i64.wrap (x * x) = x * x ∧ (r * x).tmod (p : Int) = r * x % (p : Int) ∧ (x * x).tmod (p : Int) = x * x % (p : Int) := by
  obtain ⟨r', x', m', rfl, rfl, hm, hx, hr, _, he⟩ := h
  have hrx : r' * x' ≤ 2147483648 * 2147483648 := Nat.mul_le_mul (by omega) hx
  have hxx : x' * x' ≤ 2147483648 * 2147483648 := Nat.mul_le_mul hx hx
  rw [← Int.natCast_mul, ← Int.natCast_mul]
  exact ⟨IntWalk.i64_in _ (by omega), IntWalk.i64_in _ (by omega), rfl, rfl⟩
theorem PowIs.odd {r x m : Int} {p X : Nat} (h : PowIs r x m p X) (hp : 1 < p) (hm : m % 2 = 1) (hp2 : p ≤ 2147483648) : PowIs (r * x % (p : Int)) (x * x % (p : Int)) (m / 2) p X := by
  obtain ⟨r', x', m', rfl, rfl, rfl, hx, hr, hl, he⟩ := h
  have := pow_round he
  rw [if_pos (by omega)] at this
  have l1 := Nat.mod_lt (r' * x') (show 0 < p by omega)
  have l2 := Nat.mod_lt (x' * x') (show 0 < p by omega)
  exact ⟨r' * x' % p, x' * x' % p, m' / 2, rfl, rfl, rfl, by omega, l1, by omega, this⟩
theorem PowIs.even {r x m : Int} {p X : Nat} (h : PowIs r x m p X) (hp : 1 < p) (hm : m % 2 ≠ 1) (hp2 : p ≤ 2147483648) : PowIs r (x * x % (p : Int)) (m / 2) p X := by
  obtain ⟨r', x', m', rfl, rfl, rfl, hx, hr, hl, he⟩ := h
  have := pow_round he
  rw [if_neg (by omega)] at this
  have l2 := Nat.mod_lt (x' * x') (show 0 < p by omega)
  exact ⟨r', x' * x' % p, m' / 2, rfl, rfl, rfl, by omega, hr, by omega, this⟩

theorem tmod_facts (a p : Int) (h0 : 0 < p) : (a.tmod p < 0 → a.tmod p + p = a % p) ∧ (0 ≤ a.tmod p → a.tmod p = a % p) ∧ -p < a.tmod p ∧ a.tmod p < p := by
  have h1 := Int.emod_nonneg a (show p ≠ 0 by omega)
  have h2 := Int.emod_lt_of_pos a h0
  rw [Int.tmod_eq_emod]
  split
  · omega
  · rename_i h
    have : a % p ≠ 0 := fun e => h (Or.inr (Int.dvd_of_emod_eq_zero e))
    have e3 : (p.natAbs : Int) = p := by omega
    omega

set_option maxRecDepth 100000 in
set_option maxHeartbeats 1000000 in
theorem residue_any (a p : Int) (w : World) (h0 : 0 < p) (hp : p ≤ 2147483648) :
    Calls Tryz.prog 38 #[.int .i64 a, .int .i64 p] w fun e w' => e = .returned (.int .i64 (a % p)) ∧ w = w' := by
  obtain ⟨f1, f2, f3, f4⟩ := tmod_facts a p h0
  obtain ⟨z, hz⟩ : ∃ z, a % p = z := ⟨_, rfl⟩
  obtain ⟨t, ht⟩ : ∃ t, a.tmod p = t := ⟨_, rfl⟩
  rw [hz] at f1 f2 ⊢
  rw [ht] at f1 f2 f3 f4
  have hw := IntWalk.i64_in t (by omega)
  have hw2 := IntWalk.i64_in (t + p) (by omega)
  clear hz
  by_cases hn : t < 0
  · have f := f1 hn
    rw [f] at hw2
    clear f1 f2
    go_enter Tryz.func38, Tryz.ntmps38
    go_wp2
    go_ret
    exact ⟨rfl, rfl⟩
  · obtain rfl := f2 (by omega)
    clear f1 f2
    go_enter Tryz.func38, Tryz.ntmps38
    go_wp2
    go_ret
    exact ⟨rfl, rfl⟩

set_option maxRecDepth 100000 in
set_option maxHeartbeats 1000000 in
theorem refMod_any (a p : Int) (w : World) (h0 : 0 < p) (hp : p ≤ 2147483648) :
    Calls Tryz.prog 27 #[.int .i64 a, .int .i64 p] w fun e w' => e = .returned (.int .i64 (a % p)) ∧ w = w' := by
  obtain ⟨f1, f2, f3, f4⟩ := tmod_facts a p h0
  obtain ⟨z, hz⟩ : ∃ z, a % p = z := ⟨_, rfl⟩
  obtain ⟨t, ht⟩ : ∃ t, a.tmod p = t := ⟨_, rfl⟩
  rw [hz] at f1 f2 ⊢
  rw [ht] at f1 f2 f3 f4
  have hw := IntWalk.i64_in t (by omega)
  have hw2 := IntWalk.i64_in (t + p) (by omega)
  clear hz
  by_cases hn : t < 0
  · have f := f1 hn
    rw [f] at hw2
    clear f1 f2
    go_enter Tryz.func27, Tryz.ntmps27
    go_wp2
    go_ret
    exact ⟨rfl, rfl⟩
  · obtain rfl := f2 (by omega)
    clear f1 f2
    go_enter Tryz.func27, Tryz.ntmps27
    go_wp2
    go_ret
    exact ⟨rfl, rfl⟩

set_option maxRecDepth 100000 in
set_option maxHeartbeats 2000000 in
theorem mpower_any (a n p : Nat) (w : World) (ha : a ≤ 2147483648) (hp1 : 1 < p) (hp : p ≤ 2147483648) (hn : n < 9223372036854775808) :
    Calls Tryz.prog 64 #[.int .i64 (a : Int), .int .i64 (n : Int), .int .i64 (p : Int)] w fun e w' => e = .returned (.int .i64 ((powm a n p : Nat) : Int)) ∧ w = w' := by
  obtain ⟨X, hX⟩ : ∃ X : Nat, powm a n p = X := ⟨_, rfl⟩
  have HS : PowIs 1 a n p X := ⟨1, a, n, rfl, rfl, rfl, ha, hp1, hn, (powm_start a n p).trans hX⟩
  rw [hX]
  have HP := Lib.hid (show 1 < p ∧ p ≤ 2147483648 from ⟨hp1, hp⟩)
  obtain ⟨pz, hpz⟩ : ∃ pz : Int, (p : Int) = pz := ⟨_, rfl⟩
  have HPZ := Lib.hid hpz
  have hpz0 : 0 < pz := by omega
  rw [hpz]
  clear hX hpz ha hp1 hp hn
  go_enter Tryz.func64, Tryz.ntmps64
  go_wp2
  go_loopw [0, 1, 7] (fun av nv rv wr => ∃ x m r : Int, av = .int .i64 x ∧ nv = .int .i64 m ∧ rv = .int .i64 r ∧ PowIs r x m p X ∧ w = wr)
    (fun _ nv _ _ => (intOf nv).toNat)
  case atStart => exact ⟨_, _, 1, rfl, rfl, rfl, HS, rfl⟩
  case round =>
    obtain ⟨x, m, r, rfl, rfl, rfl, HI, rfl⟩ := hrel
    clear HS
    have hm0 := HI.m0
    by_cases h0 : m = 0
    · subst h0
      go_wp2
      go_ret
      exact ⟨by rw [HI.done]; rfl, rfl⟩
    · have hm1 : 0 < m := by omega
      obtain ⟨e1, e2, e3, e4⟩ := HI.prods HP.out.2
      rw [HPZ.out] at e3 e4
      have hand := and_one_i64' m
      have hmh : (m : Int) / 2 = m / 2 := rfl
      by_cases hodd : m % 2 = 1
      · have HR := HI.odd HP.out.1 hodd HP.out.2
        rw [hodd] at hand
        rw [HPZ.out] at HR
        obtain ⟨q1, hq1⟩ : ∃ q1, r * x % pz = q1 := ⟨_, rfl⟩
        obtain ⟨q2, hq2⟩ : ∃ q2, x * x % pz = q2 := ⟨_, rfl⟩
        rw [hq1] at e3 HR
        rw [hq2] at e4 HR
        have HRR := Lib.hid HR
        have HMS := Lib.hid (show 0 ≤ m / 2 ∧ m / 2 < m by omega)
        clear hmh hodd hm0 HR hq1 hq2 HI h0
        go_wp2
        go_roundw
        case rel => exact ⟨q2, m / 2, q1, rfl, rfl, rfl, HRR.out, trivial⟩
        case measure => have := HMS.out; simp [intOf]; omega
      · have HR := HI.even HP.out.1 hodd HP.out.2
        rw [show m % 2 = 0 by omega] at hand
        rw [HPZ.out] at HR
        obtain ⟨q2, hq2⟩ : ∃ q2, x * x % pz = q2 := ⟨_, rfl⟩
        rw [hq2] at e4 HR
        have HRR := Lib.hid HR
        have HMS := Lib.hid (show 0 ≤ m / 2 ∧ m / 2 < m by omega)
        clear hmh hodd hm0 HR hq2 HI h0
        go_wp2
        go_roundw
        case rel => exact ⟨q2, m / 2, r, rfl, rfl, rfl, HRR.out, trivial⟩
        case measure => have := HMS.out; simp [intOf]; omega
end Go.Proofs.YthicfkeiggcjjaaGreatDoor

namespace Go.Proofs.YthicfkeiggcjjaaGreatDoor
open Go.RowKit

set_option maxRecDepth 100000 in
theorem inverse_any (a p : Nat) (w : World) (ha : a ≤ 2147483647) (hp1 : 1 < p) (hp : p ≤ 2147483648) :
    Calls Tryz.prog 43 #[.int .i64 (a : Int), .int .i64 (p : Int)] w fun e w' => e = .returned (.int .i64 ((powm a (p - 2) p : Nat) : Int)) ∧ w = w' := by
  have hw : IntKind.i64.wrap ((p : Int) - 2) = ((p - 2 : Nat) : Int) := by rw [IntKind.wrap_i64]; omega
  obtain ⟨q, hq⟩ : ∃ q, p - 2 = q := ⟨_, rfl⟩
  rw [hq] at hw ⊢
  have C := Lib.hid (fun w => mpower_any a q p w (by omega) hp1 hp (by omega))
  skip
  clear hq
  go_enter Tryz.func43, Tryz.ntmps43
  go_wp2_with fail
  refine (C.out _).mono ?_
  rintro e w1 ⟨rfl, rfl⟩
  go_wp2
  go_ret
  exact ⟨rfl, rfl⟩

end Go.Proofs.YthicfkeiggcjjaaGreatDoor

namespace Go.Proofs.YthicfkeiggcjjaaGreatDoor
open Go.RowKit

theorem tzw_any (x : Nat) (h0 : x ≠ 0) (h1 : x < 18446744073709551616) (w : World) (hT : Table64 w) :
    Calls Tryz.prog 82 #[.int .u64 (x : Int)] w fun e w' => e = .returned (.int .i64 ((tzk 64 x : Nat) : Int)) ∧ w = w' := by
  have C := Lib.hid (tz64_any x h0 h1 w hT)
  go_enter Tryz.func82, Tryz.ntmps82
  go_wp2_with fail
  refine C.out.mono ?_
  rintro e w1 ⟨t, rfl, ht, _, rfl⟩
  have := isTz_tzk ht h0 (by omega)
  subst this
  go_wp2
  go_ret
  exact ⟨rfl, rfl⟩

/-- between the rounds of passes -/
def SqIs (x : Int) (p j : Nat) (R : Bool) : Prop := ∃ x' : Nat, x = (x' : Int) ∧ x' < p ∧ sqs p j x' = R
theorem SqIs.prod {x : Int} {p j : Nat} {R : Bool} (h : SqIs x p j R) (hp : p ≤ 2147483648) : IntKind.i64.wrap (x * x) = x * x ∧ (x * x).tmod (p : Int) = x * x % (p : Int) := by
  obtain ⟨x', rfl, hx, _⟩ := h
  have hxx : x' * x' ≤ 2147483648 * 2147483648 := Nat.mul_le_mul (by omega) (by omega)
  rw [← Int.natCast_mul]
  exact ⟨IntWalk.i64_in _ (by omega), rfl⟩
theorem SqIs.zero {x : Int} {p : Nat} {R : Bool} (h : SqIs x p 0 R) : R = false := by obtain ⟨_, _, _, h⟩ := h; exact h.symm
theorem SqIs.hit {x : Int} {p j : Nat} {R : Bool} (h : SqIs x p (j + 1) R) (hx : x = (p : Int) - 1) : R = true := by
  obtain ⟨x', rfl, hl, h⟩ := h
  obtain rfl : x' = p - 1 := by omega
  rw [← h]; unfold sqs
  rw [show Nat.beq (p - 1) (p - 1) = true from Nat.beq_refl _]; rfl
theorem SqIs.next {x : Int} {p j : Nat} {R : Bool} (h : SqIs x p (j + 1) R) (hx : x ≠ (p : Int) - 1) (hp : 0 < p) : SqIs (x * x % (p : Int)) p j R := by
  obtain ⟨x', rfl, hl, h⟩ := h
  refine ⟨x' * x' % p, rfl, Nat.mod_lt _ hp, ?_⟩
  unfold sqs at h
  rw [beq_false (show x' ≠ p - 1 by omega)] at h
  exact h

set_option maxRecDepth 100000 in
set_option maxHeartbeats 2000000 in
theorem passes_any (p b : Nat) (w : World) (hb : b ≤ 7) (hp1 : 1 < p) (hp : p ≤ 2147483648) (hT : Table64 w) :
    Calls Tryz.prog 59 #[.int .i64 (p : Int), .int .i64 (b : Int)] w fun e w' => e = .returned (.bool (passB p b)) ∧ w = w' := by
  have CT := Lib.hid (tzw_any (p - 1) (by omega) (by omega) w hT)
  obtain ⟨R, hR⟩ : ∃ R, passB p b = R := ⟨_, rfl⟩
  rw [hR]
  unfold passB at hR
  obtain ⟨k, hk⟩ : ∃ k, tzk 64 (p - 1) = k := ⟨_, rfl⟩
  rw [hk] at CT hR
  obtain ⟨D, hD⟩ : ∃ D, (p - 1) / 2 ^ k = D := ⟨_, rfl⟩
  rw [hD] at hR
  have hD1 : D ≤ p - 1 := by rw [← hD]; exact Nat.div_le_self _ _
  have CP := Lib.hid (fun w => mpower_any b D p w (by omega) hp1 hp (by omega))
  obtain ⟨x0, hx0⟩ : ∃ x0, powm b D p = x0 := ⟨_, rfl⟩
  rw [hx0] at CP hR
  have hx0p : x0 < p := by rw [← hx0]; exact powm_lt (by omega)
  have hk64 : k < 64 := by
    have hs := tzk_spec 64 (p - 1) (by omega) (by omega)
    rw [hk] at hs
    obtain ⟨m, hm⟩ := hs
    rcases Nat.lt_or_ge k 64 with h | h
    · exact h
    · exfalso
      have h2 : 2 ^ 64 ≤ 2 ^ k := Nat.pow_le_pow_right (by omega) h
      have h3 : 2 ^ k * 1 ≤ 2 ^ k * (2 * m + 1) := Nat.mul_le_mul_left _ (by omega)
      omega
  have hmin : min k 64 = k := by omega
  obtain ⟨q, hq⟩ : ∃ q : Nat, p - 1 = q := ⟨_, rfl⟩
  rw [hq] at CT
  have hs1 : (p : Int) - 1 = (q : Int) := by omega
  have hs2 : IntKind.i64.wrap (q : Int) = (q : Int) := IntWalk.i64_in _ (by omega)
  have hs3 : IntKind.u64.wrap (q : Int) = (q : Int) := IntWalk.u64_in _ (by omega)
  have hs4 : (q : Int) / 2 ^ min k 64 = (D : Int) := by
    rw [hmin, ← hD, hq]
    have h2 := Int.natCast_ediv q (2 ^ k)
    rw [h2]; congr 1
  have hs5 : (q : Int) / 2 ^ k = (D : Int) := by rw [hmin] at hs4; exact hs4
  have hk0 : (0 : Int) ≤ (k : Int) := by omega
  have HS : (x0 = 1 ∧ R = true) ∨ (x0 ≠ 1 ∧ SqIs (x0 : Int) p k R) := by
    by_cases h1 : x0 = 1
    · left
      subst h1
      exact ⟨rfl, hR.symm⟩
    · right
      rw [beq_false h1] at hR
      exact ⟨h1, x0, rfl, hx0p, hR⟩
  have HS := Lib.hid HS
  have HP := Lib.hid (show 1 < p ∧ p ≤ 2147483648 ∧ p - 1 = q from ⟨hp1, hp, hq⟩)
  clear hmin hk hD hD1 hx0 hq hT hR hb hx0p hp1 hp
  go_enter Tryz.func59, Tryz.ntmps59
  go_wp2_with fail
  refine CT.out.mono ?_
  rintro e w1 ⟨rfl, rfl⟩
  go_wp2_with fail
  refine (CP.out _).mono ?_
  rintro e w1 ⟨rfl, rfl⟩
  clear CT CP hs4 hs5
  rcases HS.out with ⟨rfl, rfl⟩ | ⟨hx1, hS⟩
  · go_wp2
    go_ret
    exact ⟨rfl, rfl⟩
  · have hx1' : (x0 : Int) ≠ 1 := by omega
    have hS := Lib.hid hS
    clear HS hx1
    obtain ⟨xz, hxz⟩ : ∃ xz : Int, (x0 : Int) = xz := ⟨_, rfl⟩
    rw [hxz] at hx1' hS ⊢
    clear hxz
    go_wp2
    go_loopw [6, 21] (fun xv iv wr => ∃ (x : Int) (i j : Nat), xv = .int .i64 x ∧ iv = .int .i64 (i : Int) ∧ i + j = k ∧ Hid (SqIs x p j R) ∧ w = wr)
      (fun _ iv _ => k - (intOf iv).toNat)
    case atStart => exact ⟨xz, 0, k, rfl, rfl, by omega, hS, rfl⟩
    case round =>
      obtain ⟨x, i, j, rfl, rfl, hij, HI, rfl⟩ := hrel
      clear hS hx1'
      rcases j with _ | j
      · have := HI.out.zero
        subst this
        obtain rfl : i = k := by omega
        go_wp2
        go_ret
        exact ⟨rfl, rfl⟩
      · have hik : (i : Int) < (k : Int) := by omega
        have HIJ := Lib.hid (show i + 1 + j = k by omega)
        obtain ⟨e1, e2⟩ := HI.out.prod HP.out.2.1
        by_cases hhit : x = (q : Int)
        · have hr := HI.out.hit (by have := HP.out; omega)
          subst hr
          clear hij e1 e2
          subst hhit
          go_wp2
          go_ret
          exact ⟨rfl, rfl⟩
        · have hn := HI.out.next (by have := HP.out; omega) (by have := HP.out; omega)
          obtain ⟨y, hy⟩ : ∃ y, x * x % (p : Int) = y := ⟨_, rfl⟩
          rw [hy] at e2 hn
          have HN := Lib.hid hn
          clear hij hn HI hy
          go_wp2
          go_roundw
          case rel => exact ⟨y, i + 1, j, rfl, by go_num, HIJ.out, HN.out, trivial⟩
          case measure => have := HIJ.out; simp [intOf]; omega
end Go.Proofs.YthicfkeiggcjjaaGreatDoor
