/- What float.Sqrt does, for finite numbers greater than zero. -/
import Derived.Test.YthakjcdchaimpaaDoorCFRoot
import Derived.Test.YthakjcdchaimpaaDoorCFLaw
namespace Go.Proofs.YthakjcdchaimpaaDoor
open Go.RowKit

theorem fla_small (neg : Bool) {N : Nat} {e : Int} (t : Bool) (mode : Int) (hs : e + (Nat.log2 N : Int) ≤ 900) : fla neg N e t mode < 9218868437227405312 := by
  unfold fla
  rw [if_neg (by omega)]
  have hP : fplace N e = max (e + (Nat.log2 N : Int) - 52) (-1074) := rfl
  split
  · rename_i h1
    obtain ⟨k, hk⟩ : ∃ k : Nat, (e - fplace N e).toNat = k := ⟨_, rfl⟩
    obtain ⟨p, hp⟩ : ∃ p : Nat, (fplace N e + 1074).toNat = p := ⟨_, rfl⟩
    rw [hk, hp]
    have hlt : N * 2 ^ k < 9007199254740992 := by
      rw [show (9007199254740992 : Nat) = 2 ^ 53 by decide]
      have h2 : N * 2 ^ k < 2 ^ (Nat.log2 N + 1) * 2 ^ k := Nat.mul_lt_mul_of_pos_right (Nat.lt_log2_self (n := N)) (Nat.pow_pos (by omega))
      rw [← Nat.pow_add] at h2
      exact Nat.lt_of_lt_of_le h2 (Nat.pow_le_pow_right (by omega) (by omega))
    have hp2 : p ≤ 2000 := by omega
    generalize N * 2 ^ k = x at *
    omega
  · rename_i h1
    obtain ⟨k, hk⟩ : ∃ k : Nat, (fplace N e - e).toNat = k := ⟨_, rfl⟩
    obtain ⟨p, hp⟩ : ∃ p : Nat, (fplace N e + 1074).toNat = p := ⟨_, rfl⟩
    rw [hk, hp]
    have hlt := kept_lt (N := N) (k := k) (by omega)
    have hp2 : p ≤ 2000 := by omega
    generalize N / 2 ^ k = x at *
    split <;> omega

/-- a directed root -/
def SqrtIs (f : Nat) (mode : Int) (g : Nat) : Prop := g < 9218868437227405312 ∧ (mode = 1 → fz g * fz g ≤ fz f * 2 ^ low74) ∧ (mode = 2 → fz f * 2 ^ low74 ≤ fz g * fz g)
theorem sqrt_is {f r s hi lo : Nat} {E : Int} (hf : finB f = true) (R : RootOf (sig f) (-1074 + (fsh f : Int)) (sig f * 2 ^ s) hi lo r E s) (hs0 : 64 ≤ s) (hs1 : s ≤ 127) (mode : Int) : SqrtIs f mode (fla false r E (!decide (r * r = sig f * 2 ^ s)) mode) := by
  have h1 : fmag f < 9218868437227405312 := of_decide_eq_true hf
  have hsh : fsh f ≤ 2045 := by unfold fsh ffld; omega
  have hexp := R.exp
  have r2 := R.r2
  have r3 := R.r3
  have hlog : Nat.log2 r < 63 := (Nat.log2_lt (by omega)).2 r3
  obtain ⟨k1, k2, k3⟩ := root_encl (a := f) (r := r) (s := s) (E := E) (t := !decide (r * r = sig f * 2 ^ s)) (by omega) (by omega) (by omega) hexp R.r0 R.r1 (fun h => by simpa using h)
  have hsm := fla_small false (N := r) (e := E) (!decide (r * r = sig f * 2 ^ s)) mode (by omega)
  refine ⟨hsm, ?_, ?_⟩
  · rintro rfl; exact k2
  · rintro rfl; exact k3 hsm

theorem fround_lo {r : Nat} {E : Int} {t : Bool} (h0 : 4611686018427387904 ≤ r) (h1 : r < 9223372036854775808) (hE0 : -100000 ≤ E) (hE1 : E ≤ 100000) (mode : Int) (w : World) :
    Calls Tryd.prog 55 #[.agg #[.int .u64 0, .int .u64 (r : Int), .int .i64 E, .bool t], .int .u64 0, .int .i64 mode] w fun x w' => x = .returned (.int .u64 ((fla false r E t mode : Nat) : Int)) ∧ Ext w w' :=
  fround_at 0 r E t false mode (by omega) (by omega) (by omega) (fun _ => by omega) (by omega) (by omega) (z := 0) rfl (fla false r E t mode) (by rw [Nat.zero_mul, Nat.zero_add, Nat.zero_add]) w

set_option maxRecDepth 100000 in
set_option maxHeartbeats 2000000 in
theorem fsqrt_at {f : Nat} (hf : f < 18446744073709551616) (hfin : finB f = true) (hz : zeroB f = false) (hn : fneg f = false) (mode : Int) (w : World) :
    Calls Tryd.prog 21 #[.int .u64 (f : Int), .int .i64 mode] w fun x w' => ∃ g : Nat, x = .returned (.int .u64 (g : Int)) ∧ SqrtIs f mode g ∧ Ext w w' := by
  have CZ := Lib.hid (fun w => isZero_any f hf w)
  have CN := Lib.hid (fun w => isNaN_any f hf w)
  have CG := Lib.hid (fun w => isNegative_any f hf w)
  have CS := Lib.hid (fun w => fsplit_any f hf w)
  rw [hz] at CZ
  rw [(fin_not hfin).1] at CN
  rw [hn] at CG
  have hi : ((f : Int) == 9218868437227405312) = false := by
    rw [beq_eq_false_iff_ne]
    intro h
    have h2 : f = 9218868437227405312 := by omega
    rw [h2] at hfin
    revert hfin
    decide
  have hs0 : sig f ≠ 0 := fun h => by have h1 := (sig_zero f).1 h; unfold zeroB at hz; rw [h1] at hz; simp at hz
  have hsl := sig_lt f
  have hsh := fsh_lt f
  have CR := Lib.hid (fun w => frootF_any (N := sig f) (e := -1074 + (fsh f : Int)) hs0 hsl (by omega) (by omega) w)
  have CO := Lib.hid (fun (r : Nat) (E : Int) (t : Bool) (h0 : 4611686018427387904 ≤ r) (h1 : r < 9223372036854775808) (hE0 : -100000 ≤ E) (hE1 : E ≤ 100000) w => fround_lo (t := t) h0 h1 hE0 hE1 mode w)
  have SI := Lib.hid (fun (r s hi lo : Nat) (E : Int) (R : RootOf (sig f) (-1074 + (fsh f : Int)) (sig f * 2 ^ s) hi lo r E s) (h0 : 64 ≤ s) (h1 : s ≤ 127) => sqrt_is hfin R h0 h1 mode)
  clear hs0 hsl hn hz hfin hf
  go_enter Tryd.func21, Tryd.ntmps21
  go_wp2_with fail
  refine (CZ.out _).mono ?_
  rintro x w1 ⟨rfl, rfl⟩
  go_wp2_with fail
  refine (CN.out _).mono ?_
  rintro x w2 ⟨rfl, rfl⟩
  go_wp2_with fail
  refine (CG.out _).mono ?_
  rintro x w3 ⟨rfl, rfl⟩
  go_wp2_with fail
  refine (CS.out _).mono ?_
  rintro x w4 ⟨rfl, hE1⟩
  have E1 := Lib.hid hE1
  clear hE1
  go_wp2_with fail
  refine (CR.out _).mono ?_
  rintro x w5 ⟨r, E, s, hi, lo, rfl, RO, k0, k1, hE2⟩
  have SI1 := Lib.hid (SI.out r s hi lo E RO k0 k1)
  have hexp := RO.exp
  have q0 := RO.r2
  have q1 := RO.r3
  have E2 := Lib.hid (Ext.trans E1.out hE2)
  have CO1 := Lib.hid (CO.out r E (!decide (r * r = sig f * 2 ^ s)) q0 q1 (by omega) (by omega))
  clear hE2 RO hexp k0 k1 q0 q1
  obtain ⟨t, ht⟩ : ∃ t, (!decide (r * r = sig f * 2 ^ s)) = t := ⟨_, rfl⟩
  rw [ht] at CO1 SI1
  go_wp2_with fail
  refine (CO1.out _).mono ?_
  rintro x w6 ⟨rfl, hE3⟩
  go_wp2
  go_ret
  exact ⟨_, rfl, SI1.out, Ext.trans E2.out hE3⟩
end Go.Proofs.YthakjcdchaimpaaDoor
