import Derived.Test.YtagahbbjljndeaaGreatDoorMoChU24
import Derived.Test.YtagahbbjljndeaaGreatDoorMoChU22
namespace Go.Proofs.YtagahbbjljndeaaGreatDoor
open Go.RowKit

set_option maxRecDepth 100000 in
theorem inverse_any (a p : Nat) (w : World) (ha : a ≤ 2147483647) (hp1 : 1 < p) (hp : p ≤ 2147483648) :
    Calls Tryz.prog 31 #[.int .i64 (a : Int), .int .i64 (p : Int)] w fun e w' => e = .returned (.int .i64 ((powm a (p - 2) p : Nat) : Int)) ∧ w = w' := by
  have hw : IntKind.i64.wrap ((p : Int) - 2) = ((p - 2 : Nat) : Int) := by rw [IntKind.wrap_i64]; omega
  obtain ⟨q, hq⟩ : ∃ q, p - 2 = q := ⟨_, rfl⟩
  rw [hq] at hw ⊢
  have C := Lib.hid (fun w => mpower_any a q p w (by omega) hp1 hp (by omega))
  skip
  clear hq
  go_enter Tryz.func31, Tryz.ntmps31
  go_wp2_with fail
  refine (C.out _).mono ?_
  rintro e w1 ⟨rfl, rfl⟩
  go_wp2
  go_ret
  exact ⟨rfl, rfl⟩

end Go.Proofs.YtagahbbjljndeaaGreatDoor

namespace Go.Proofs.YtagahbbjljndeaaGreatDoor
open Go.RowKit

theorem tzw_any (x : Nat) (h0 : x ≠ 0) (h1 : x < 18446744073709551616) (w : World) (hT : Table64 w) :
    Calls Tryz.prog 98 #[.int .u64 (x : Int)] w fun e w' => e = .returned (.int .i64 ((tzk 64 x : Nat) : Int)) ∧ w = w' := by
  have C := Lib.hid (tz64_any x h0 h1 w hT)
  go_enter Tryz.func98, Tryz.ntmps98
  go_wp2_with fail
  refine C.out.mono ?_
  rintro e w1 ⟨t, rfl, ht, _, rfl⟩
  have := isTz_tzk ht h0 (by omega)
  subst this
  go_wp2
  go_ret
  exact ⟨rfl, rfl⟩

/-- between the rounds of passes -/
def SqIs (x : Int) (p j : Nat) (R : Bool) : Prop := ∃ x' : Nat, x = (x' : Int) ∧ x' < p ∧ sqs p j x' = R
theorem SqIs.prod {x : Int} {p j : Nat} {R : Bool} (h : SqIs x p j R) (hp : p ≤ 2147483648) : IntKind.i64.wrap (x * x) = x * x ∧ (x * x).tmod (p : Int) = x * x % (p : Int) := by
  obtain ⟨x', rfl, hx, _⟩ := h
  have hxx : x' * x' ≤ 2147483648 * 2147483648 := Nat.mul_le_mul (by omega) (by omega)
  rw [← Int.natCast_mul]
  exact ⟨IntWalk.i64_in _ (by omega), rfl⟩
theorem SqIs.zero {x : Int} {p : Nat} {R : Bool} (h : SqIs x p 0 R) : R = false := by obtain ⟨_, _, _, h⟩ := h; exact h.symm
theorem SqIs.hit {x : Int} {p j : Nat} {R : Bool} (h : SqIs x p (j + 1) R) (hx : x = (p : Int) - 1) : R = true := by
  obtain ⟨x', rfl, hl, h⟩ := h
  obtain rfl : x' = p - 1 := by omega
  rw [← h]; unfold sqs
  rw [show Nat.beq (p - 1) (p - 1) = true from Nat.beq_refl _]; rfl
theorem SqIs.next {x : Int} {p j : Nat} {R : Bool} (h : SqIs x p (j + 1) R) (hx : x ≠ (p : Int) - 1) (hp : 0 < p) : SqIs (x * x % (p : Int)) p j R := by
  obtain ⟨x', rfl, hl, h⟩ := h
  refine ⟨x' * x' % p, rfl, Nat.mod_lt _ hp, ?_⟩
  unfold sqs at h
  rw [beq_false (show x' ≠ p - 1 by omega)] at h
  exact h

set_option maxRecDepth 100000 in
set_option maxHeartbeats 2000000 in
theorem passes_any (p b : Nat) (w : World) (hb : b ≤ 7) (hp1 : 1 < p) (hp : p ≤ 2147483648) (hT : Table64 w) :
    Calls Tryz.prog 63 #[.int .i64 (p : Int), .int .i64 (b : Int)] w fun e w' => e = .returned (.bool (passB p b)) ∧ w = w' := by
  have CT := Lib.hid (tzw_any (p - 1) (by omega) (by omega) w hT)
  obtain ⟨R, hR⟩ : ∃ R, passB p b = R := ⟨_, rfl⟩
  rw [hR]
  unfold passB at hR
  obtain ⟨k, hk⟩ : ∃ k, tzk 64 (p - 1) = k := ⟨_, rfl⟩
  rw [hk] at CT hR
  obtain ⟨D, hD⟩ : ∃ D, (p - 1) / 2 ^ k = D := ⟨_, rfl⟩
  rw [hD] at hR
  have hD1 : D ≤ p - 1 := by rw [← hD]; exact Nat.div_le_self _ _
  have CP := Lib.hid (fun w => mpower_any b D p w (by omega) hp1 hp (by omega))
  obtain ⟨x0, hx0⟩ : ∃ x0, powm b D p = x0 := ⟨_, rfl⟩
  rw [hx0] at CP hR
  have hx0p : x0 < p := by rw [← hx0]; exact powm_lt (by omega)
  have hk64 : k < 64 := by
    have hs := tzk_spec 64 (p - 1) (by omega) (by omega)
    rw [hk] at hs
    obtain ⟨m, hm⟩ := hs
    rcases Nat.lt_or_ge k 64 with h | h
    · exact h
    · exfalso
      have h2 : 2 ^ 64 ≤ 2 ^ k := Nat.pow_le_pow_right (by omega) h
      have h3 : 2 ^ k * 1 ≤ 2 ^ k * (2 * m + 1) := Nat.mul_le_mul_left _ (by omega)
      omega
  have hmin : min k 64 = k := by omega
  obtain ⟨q, hq⟩ : ∃ q : Nat, p - 1 = q := ⟨_, rfl⟩
  rw [hq] at CT
  have hs1 : (p : Int) - 1 = (q : Int) := by omega
  have hs2 : IntKind.i64.wrap (q : Int) = (q : Int) := IntWalk.i64_in _ (by omega)
  have hs3 : IntKind.u64.wrap (q : Int) = (q : Int) := IntWalk.u64_in _ (by omega)
  have hs4 : (q : Int) / 2 ^ min k 64 = (D : Int) := by
    rw [hmin, ← hD, hq]
    have h2 := Int.natCast_ediv q (2 ^ k)
    rw [h2]; congr 1
  have hs5 : (q : Int) / 2 ^ k = (D : Int) := by rw [hmin] at hs4; exact hs4
  have hk0 : (0 : Int) ≤ (k : Int) := by omega
  have HS : (x0 = 1 ∧ R = true) ∨ (x0 ≠ 1 ∧ SqIs (x0 : Int) p k R) := by
    by_cases h1 : x0 = 1
    · left
      subst h1
      exact ⟨rfl, hR.symm⟩
    · right
      rw [beq_false h1] at hR
      exact ⟨h1, x0, rfl, hx0p, hR⟩
  have HS := Lib.hid HS
  have HP := Lib.hid (show 1 < p ∧ p ≤ 2147483648 ∧ p - 1 = q from ⟨hp1, hp, hq⟩)
  clear hmin hk hD hD1 hx0 hq hT hR hb hx0p hp1 hp
  go_enter Tryz.func63, Tryz.ntmps63
  go_wp2_with fail
  refine CT.out.mono ?_
  rintro e w1 ⟨rfl, rfl⟩
  go_wp2_with fail
  refine (CP.out _).mono ?_
  rintro e w1 ⟨rfl, rfl⟩
  clear CT CP hs4 hs5
  rcases HS.out with ⟨rfl, rfl⟩ | ⟨hx1, hS⟩
  · go_wp2
    go_ret
    exact ⟨rfl, rfl⟩
  · have hx1' : (x0 : Int) ≠ 1 := by omega
    have hS := Lib.hid hS
    clear HS hx1
    obtain ⟨xz, hxz⟩ : ∃ xz : Int, (x0 : Int) = xz := ⟨_, rfl⟩
    rw [hxz] at hx1' hS ⊢
    clear hxz
    go_wp2
    go_loopw [6, 21] (fun xv iv wr => ∃ (x : Int) (i j : Nat), xv = .int .i64 x ∧ iv = .int .i64 (i : Int) ∧ i + j = k ∧ Hid (SqIs x p j R) ∧ w = wr)
      (fun _ iv _ => k - (intOf iv).toNat)
    case atStart => exact ⟨xz, 0, k, rfl, rfl, by omega, hS, rfl⟩
    case round =>
      obtain ⟨x, i, j, rfl, rfl, hij, HI, rfl⟩ := hrel
      clear hS hx1'
      rcases j with _ | j
      · have := HI.out.zero
        subst this
        obtain rfl : i = k := by omega
        go_wp2
        go_ret
        exact ⟨rfl, rfl⟩
      · have hik : (i : Int) < (k : Int) := by omega
        have HIJ := Lib.hid (show i + 1 + j = k by omega)
        obtain ⟨e1, e2⟩ := HI.out.prod HP.out.2.1
        by_cases hhit : x = (q : Int)
        · have hr := HI.out.hit (by have := HP.out; omega)
          subst hr
          clear hij e1 e2
          subst hhit
          go_wp2
          go_ret
          exact ⟨rfl, rfl⟩
        · have hn := HI.out.next (by have := HP.out; omega) (by have := HP.out; omega)
          obtain ⟨y, hy⟩ : ∃ y, x * x % (p : Int) = y := ⟨_, rfl⟩
          rw [hy] at e2 hn
          have HN := Lib.hid hn
          clear hij hn HI hy
          go_wp2
          go_roundw
          case rel => exact ⟨y, i + 1, j, rfl, by go_num, HIJ.out, HN.out, trivial⟩
          case measure => have := HIJ.out; simp [intOf]; omega
end Go.Proofs.YtagahbbjljndeaaGreatDoor
