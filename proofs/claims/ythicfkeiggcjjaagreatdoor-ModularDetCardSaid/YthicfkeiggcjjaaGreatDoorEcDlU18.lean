import Derived.Test.YthicfkeiggcjjaaGreatDoorEcDlU17
import Derived.Test.YthicfkeiggcjjaaGreatDoorEcDlU4
namespace Go.Proofs.YthicfkeiggcjjaaGreatDoor
open Go.RowKit

set_option maxRecDepth 100000 in
theorem inverse_any (a p : Nat) (w : World) (ha : a ≤ 2147483647) (hp1 : 1 < p) (hp : p ≤ 2147483648) :
    Calls Tryz.prog 43 #[.int .i64 (a : Int), .int .i64 (p : Int)] w fun e w' => e = .returned (.int .i64 ((powm a (p - 2) p : Nat) : Int)) ∧ w = w' := by
  have hw : IntKind.i64.wrap ((p : Int) - 2) = ((p - 2 : Nat) : Int) := by rw [IntKind.wrap_i64]; omega
  obtain ⟨q, hq⟩ : ∃ q, p - 2 = q := ⟨_, rfl⟩
  rw [hq] at hw ⊢
  have C := Lib.hid (fun w => mpower_any a q p w (by omega) hp1 hp (by omega))
  skip
  clear hq
  go_enter Tryz.func43, Tryz.ntmps43
  go_wp2_with fail
  refine (C.out _).mono ?_
  rintro e w1 ⟨rfl, rfl⟩
  go_wp2
  go_ret
  exact ⟨rfl, rfl⟩

end Go.Proofs.YthicfkeiggcjjaaGreatDoor

namespace Go.Proofs.YthicfkeiggcjjaaGreatDoor
open Go.RowKit

theorem tzw_any (x : Nat) (h0 : x ≠ 0) (h1 : x < 18446744073709551616) (w : World) (hT : Table64 w) :
    Calls Tryz.prog 82 #[.int .u64 (x : Int)] w fun e w' => e = .returned (.int .i64 ((tzk 64 x : Nat) : Int)) ∧ w = w' := by
  have C := Lib.hid (tz64_any x h0 h1 w hT)
  go_enter Tryz.func82, Tryz.ntmps82
  go_wp2_with fail
  refine C.out.mono ?_
  rintro e w1 ⟨t, rfl, ht, _, rfl⟩
  have := isTz_tzk ht h0 (by omega)
  subst this
  go_wp2
  go_ret
  exact ⟨rfl, rfl⟩

/-- between the rounds of passes -/
def SqIs (x : Int) (p j : Nat) (R : Bool) : Prop := ∃ x' : Nat, x = (x' : Int) ∧ x' < p ∧ sqs p j x' = R
theorem SqIs.prod {x : Int} {p j : Nat} {R : Bool} (h : SqIs x p j R) (hp : p ≤ 2147483648) : IntKind.i64.wrap (x * x) = x * x ∧ (x * x).tmod (p : Int) = x * x % (p : Int) := by
  obtain ⟨x', rfl, hx, _⟩ := h
  have hxx : x' * x' ≤ 2147483648 * 2147483648 := Nat.mul_le_mul (by omega) (by omega)
  rw [← Int.natCast_mul]
  exact ⟨IntWalk.i64_in _ (by omega), rfl⟩
theorem SqIs.zero {x : Int} {p : Nat} {R : Bool} (h : SqIs x p 0 R) : R = false := by obtain ⟨_, _, _, h⟩ := h; exact h.symm
theorem SqIs.hit {x : Int} {p j : Nat} {R : Bool} (h : SqIs x p (j + 1) R) (hx : x = (p : Int) - 1) : R = true := by
  obtain ⟨x', rfl, hl, h⟩ := h
  obtain rfl : x' = p - 1 := by omega
  rw [← h]; unfold sqs
  rw [show Nat.beq (p - 1) (p - 1) = true from Nat.beq_refl _]; rfl
theorem SqIs.next {x : Int} {p j : Nat} {R : Bool} (h : SqIs x p (j + 1) R) (hx : x ≠ (p : Int) - 1) (hp : 0 < p) : SqIs (x * x % (p : Int)) p j R := by
  obtain ⟨x', rfl, hl, h⟩ := h
  refine ⟨x' * x' % p, rfl, Nat.mod_lt _ hp, ?_⟩
  unfold sqs at h
  rw [beq_false (show x' ≠ p - 1 by omega)] at h
  exact h

set_option maxRecDepth 100000 in
set_option maxHeartbeats 2000000 in
theorem passes_any (p b : Nat) (w : World) (hb : b ≤ 7) (hp1 : 1 < p) (hp : p ≤ 2147483648) (hT : Table64 w) :
    Calls Tryz.prog 59 #[.int .i64 (p : Int), .int .i64 (b : Int)] w fun e w' => e = .returned (.bool (passB p b)) ∧ w = w' := by
  have CT := Lib.hid (tzw_any (p - 1) (by omega) (by omega) w hT)
  obtain ⟨R, hR⟩ : ∃ R, passB p b = R := ⟨_, rfl⟩
  rw [hR]
  unfold passB at hR
  obtain ⟨k, hk⟩ : ∃ k, tzk 64 (p - 1) = k := ⟨_, rfl⟩
  rw [hk] at CT hR
  obtain ⟨D, hD⟩ : ∃ D, (p - 1) / 2 ^ k = D := ⟨_, rfl⟩
  rw [hD] at hR
  have hD1 : D ≤ p - 1 := by rw [← hD]; exact Nat.div_le_self _ _
  have CP := Lib.hid (fun w => mpower_any b D p w (by omega) hp1 hp (by omega))
  obtain ⟨x0, hx0⟩ : ∃ x0, powm b D p = x0 := ⟨_, rfl⟩
  rw [hx0] at CP hR
  have hx0p : x0 < p := by rw [← hx0]; exact powm_lt (by omega)
  have hk64 : k < 64 := by
    have hs := tzk_spec 64 (p - 1) (by omega) (by omega)
    rw [hk] at hs
    obtain ⟨m, hm⟩ := hs
    rcases Nat.lt_or_ge k 64 with h | h
    · exact h
    · exfalso
      have h2 : 2 ^ 64 ≤ 2 ^ k := Nat.pow_le_pow_right (by omega) h
      have h3 : 2 ^ k * 1 ≤ 2 ^ k * (2 * m + 1) := Nat.mul_le_mul_left _ (by omega)
      omega
  have hmin : min k 64 = k := by omega
  obtain ⟨q, hq⟩ : ∃ q : Nat, p - 1 = q := ⟨_, rfl⟩
  rw [hq] at CT
  have hs1 : (p : Int) - 1 = (q : Int) := by omega
  have hs2 : IntKind.i64.wrap (q : Int) = (q : Int) := IntWalk.i64_in _ (by omega)
  have hs3 : IntKind.u64.wrap (q : Int) = (q : Int) := IntWalk.u64_in _ (by omega)
  have hs4 : (q : Int) / 2 ^ min k 64 = (D : Int) := by
    rw [hmin, ← hD, hq]
    have h2 := Int.natCast_ediv q (2 ^ k)
    rw [h2]; congr 1
  have hs5 : (q : Int) / 2 ^ k = (D : Int) := by rw [hmin] at hs4; exact hs4
  have hk0 : (0 : Int) ≤ (k : Int) := by omega
  have HS : (x0 = 1 ∧ R = true) ∨ (x0 ≠ 1 ∧ SqIs (x0 : Int) p k R) := by
    by_cases h1 : x0 = 1
    · left
      subst h1
      exact ⟨rfl, hR.symm⟩
    · right
      rw [beq_false h1] at hR
      exact ⟨h1, x0, rfl, hx0p, hR⟩
  have HS := Lib.hid HS
  have HP := Lib.hid (show 1 < p ∧ p ≤ 2147483648 ∧ p - 1 = q from ⟨hp1, hp, hq⟩)
  clear hmin hk hD hD1 hx0 hq hT hR hb hx0p hp1 hp
  go_enter Tryz.func59, Tryz.ntmps59
  go_wp2_with fail
  refine CT.out.mono ?_
  rintro e w1 ⟨rfl, rfl⟩
  go_wp2_with fail
  refine (CP.out _).mono ?_
  rintro e w1 ⟨rfl, rfl⟩
  clear CT CP hs4 hs5
  rcases HS.out with ⟨rfl, rfl⟩ | ⟨hx1, hS⟩
  · go_wp2
    go_ret
    exact ⟨rfl, rfl⟩
  · have hx1' : (x0 : Int) ≠ 1 := by omega
    have hS := Lib.hid hS
    clear HS hx1
    obtain ⟨xz, hxz⟩ : ∃ xz : Int, (x0 : Int) = xz := ⟨_, rfl⟩
    rw [hxz] at hx1' hS ⊢
    clear hxz
    go_wp2
    go_loopw [6, 21] (fun xv iv wr => ∃ (x : Int) (i j : Nat), xv = .int .i64 x ∧ iv = .int .i64 (i : Int) ∧ i + j = k ∧ Hid (SqIs x p j R) ∧ w = wr)
      (fun _ iv _ => k - (intOf iv).toNat)
    case atStart => exact ⟨xz, 0, k, rfl, rfl, by omega, hS, rfl⟩
    case round =>
      obtain ⟨x, i, j, rfl, rfl, hij, HI, rfl⟩ := hrel
      clear hS hx1'
      rcases j with _ | j
      · have := HI.out.zero
        subst this
        obtain rfl : i = k := by omega
        go_wp2
        go_ret
        exact ⟨rfl, rfl⟩
      · have hik : (i : Int) < (k : Int) := by omega
        have HIJ := Lib.hid (show i + 1 + j = k by omega)
        obtain ⟨e1, e2⟩ := HI.out.prod HP.out.2.1
        by_cases hhit : x = (q : Int)
        · have hr := HI.out.hit (by have := HP.out; omega)
          subst hr
          clear hij e1 e2
          subst hhit
          go_wp2
          go_ret
          exact ⟨rfl, rfl⟩
        · have hn := HI.out.next (by have := HP.out; omega) (by have := HP.out; omega)
          obtain ⟨y, hy⟩ : ∃ y, x * x % (p : Int) = y := ⟨_, rfl⟩
          rw [hy] at e2 hn
          have HN := Lib.hid hn
          clear hij hn HI hy
          go_wp2
          go_roundw
          case rel => exact ⟨y, i + 1, j, rfl, by go_num, HIJ.out, HN.out, trivial⟩
          case measure => have := HIJ.out; simp [intOf]; omega
end Go.Proofs.YthicfkeiggcjjaaGreatDoor

namespace Go.Proofs.YthicfkeiggcjjaaGreatDoor
open Go.RowKit

set_option maxRecDepth 100000 in
set_option maxHeartbeats 4000000 in
theorem isPrime_any (p : Int) (w : World) (hT : Table64 w) :
    Calls Tryz.prog 31 #[.int .i64 p] w fun e w' => e = .returned (.bool (mr p)) ∧ w = w' := by
  by_cases h1 : p < 2
  · have hr : mr p = false := by unfold mr; rw [decide_eq_false (show ¬ (2 ≤ p ∧ p ≤ 2147483647) by omega)]; rfl
    rw [hr]
    clear hT hr
    go_enter Tryz.func31, Tryz.ntmps31
    go_wp2
    go_ret
    exact ⟨rfl, rfl⟩
  by_cases h2 : 2147483647 < p
  · have hr : mr p = false := by unfold mr; rw [decide_eq_false (show ¬ (2 ≤ p ∧ p ≤ 2147483647) by omega)]; rfl
    rw [hr]
    clear hT hr
    go_enter Tryz.func31, Tryz.ntmps31
    go_wp2
    go_ret
    exact ⟨rfl, rfl⟩
  obtain ⟨n, rfl⟩ := Int.eq_ofNat_of_zero_le (show 0 ≤ p by omega)
  obtain ⟨R, hR⟩ : ∃ R, mrB n [2, 3, 5, 7] = R := ⟨_, rfl⟩
  have hr : mr (n : Int) = R := by unfold mr; rw [decide_eq_true (show 2 ≤ (n : Int) ∧ (n : Int) ≤ 2147483647 by omega), Bool.true_and]; exact hR
  rw [hr]
  have CP := Lib.hid (fun (b : Nat) (hb : b ≤ 7) => passes_any n b w hb (by omega) (by omega) hT)
  have HR := Lib.hid hR
  clear hr hT hR
  go_enter Tryz.func31, Tryz.ntmps31
  go_wp2
  go_loopw [12] (fun iv wr => ∃ z : Int, iv = .int .i64 z ∧ ((z = 0 ∧ Hid (mrB n [2, 3, 5, 7] = R)) ∨ (z = 1 ∧ Hid (mrB n [3, 5, 7] = R)) ∨ (z = 2 ∧ Hid (mrB n [5, 7] = R)) ∨ (z = 3 ∧ Hid (mrB n [7] = R)) ∨ (z = 4 ∧ Hid (mrB n [] = R))) ∧ w = wr)
    (fun iv _ => 4 - (intOf iv).toNat)
  case atStart => exact ⟨0, rfl, Or.inl ⟨rfl, HR⟩, rfl⟩
  case round =>
    obtain ⟨z, rfl, hz, rfl⟩ := hrel
    clear HR
    rcases hz with ⟨rfl, HI⟩ | ⟨rfl, HI⟩ | ⟨rfl, HI⟩ | ⟨rfl, HI⟩ | ⟨rfl, HI⟩
    · have hb : mrB n [2, 3, 5, 7] = R := HI.out
      by_cases hd : n % 2 = 0
      · have hr : R = Nat.beq n 2 := by rw [← hb]; show cond (Nat.beq (n % 2) 0) _ _ = _; rw [hd]; rfl
        have hdi : (n : Int) % 2 = 0 := by omega
        clear hb HI hd CP
        have hix : ∀ w, (Instr.index 89 (.agg #[.int .i64 2, .int .i64 3, .int .i64 5, .int .i64 7]) (.int .i64 0)).run Tryz.prog w = .ok (.int .i64 2) w := fun _ => by kernel_rfl
        have hr2 : R = ((n : Int) == 2) := by
          rw [hr]
          by_cases he : n = 2
          · rw [he]; rfl
          · rw [beq_false he]
            exact (beq_eq_false_iff_ne.2 (show (n : Int) ≠ 2 by omega)).symm
        clear hr
        go_wp2
        go_ret
        exact ⟨by rw [hr2]; rfl, rfl⟩
      · have hr : R = cond (passB n 2) (mrB n [3, 5, 7]) false := by rw [← hb]; show cond (Nat.beq (n % 2) 0) _ _ = _; rw [beq_false hd]; rfl
        have hdi : (n : Int) % 2 ≠ 0 := by omega
        clear hb HI hd
        have hix : ∀ w, (Instr.index 89 (.agg #[.int .i64 2, .int .i64 3, .int .i64 5, .int .i64 7]) (.int .i64 0)).run Tryz.prog w = .ok (.int .i64 2) w := fun _ => by kernel_rfl
        go_wp2_with fail
        refine (CP.out 2 (by decide)).mono ?_
        rintro e w1 ⟨rfl, rfl⟩
        clear CP
        cases hpb : passB n 2 with
        | false =>
          have hr2 : R = false := by rw [hr, hpb]; rfl
          clear hr hpb
          subst hr2
          go_wp2
          go_ret
          exact ⟨rfl, rfl⟩
        | true =>
          have HR := Lib.hid (show mrB n [3, 5, 7] = R by rw [hr, hpb]; rfl)
          clear hr hpb
          go_wp2
          go_roundw
          case rel => exact ⟨1, rfl, Or.inr (Or.inl ⟨rfl, HR⟩), trivial⟩
          case measure => first | decide | (simp only [intOf]; omega)
    · have hb : mrB n [3, 5, 7] = R := HI.out
      by_cases hd : n % 3 = 0
      · have hr : R = Nat.beq n 3 := by rw [← hb]; show cond (Nat.beq (n % 3) 0) _ _ = _; rw [hd]; rfl
        have hdi : (n : Int) % 3 = 0 := by omega
        clear hb HI hd CP
        have hix : ∀ w, (Instr.index 89 (.agg #[.int .i64 2, .int .i64 3, .int .i64 5, .int .i64 7]) (.int .i64 1)).run Tryz.prog w = .ok (.int .i64 3) w := fun _ => by kernel_rfl
        have hr2 : R = ((n : Int) == 3) := by
          rw [hr]
          by_cases he : n = 3
          · rw [he]; rfl
          · rw [beq_false he]
            exact (beq_eq_false_iff_ne.2 (show (n : Int) ≠ 3 by omega)).symm
        clear hr
        go_wp2
        go_ret
        exact ⟨by rw [hr2]; rfl, rfl⟩
      · have hr : R = cond (passB n 3) (mrB n [5, 7]) false := by rw [← hb]; show cond (Nat.beq (n % 3) 0) _ _ = _; rw [beq_false hd]; rfl
        have hdi : (n : Int) % 3 ≠ 0 := by omega
        clear hb HI hd
        have hix : ∀ w, (Instr.index 89 (.agg #[.int .i64 2, .int .i64 3, .int .i64 5, .int .i64 7]) (.int .i64 1)).run Tryz.prog w = .ok (.int .i64 3) w := fun _ => by kernel_rfl
        go_wp2_with fail
        refine (CP.out 3 (by decide)).mono ?_
        rintro e w1 ⟨rfl, rfl⟩
        clear CP
        cases hpb : passB n 3 with
        | false =>
          have hr2 : R = false := by rw [hr, hpb]; rfl
          clear hr hpb
          subst hr2
          go_wp2
          go_ret
          exact ⟨rfl, rfl⟩
        | true =>
          have HR := Lib.hid (show mrB n [5, 7] = R by rw [hr, hpb]; rfl)
          clear hr hpb
          go_wp2
          go_roundw
          case rel => exact ⟨2, rfl, Or.inr (Or.inr (Or.inl ⟨rfl, HR⟩)), trivial⟩
          case measure => first | decide | (simp only [intOf]; omega)
    · have hb : mrB n [5, 7] = R := HI.out
      by_cases hd : n % 5 = 0
      · have hr : R = Nat.beq n 5 := by rw [← hb]; show cond (Nat.beq (n % 5) 0) _ _ = _; rw [hd]; rfl
        have hdi : (n : Int) % 5 = 0 := by omega
        clear hb HI hd CP
        have hix : ∀ w, (Instr.index 89 (.agg #[.int .i64 2, .int .i64 3, .int .i64 5, .int .i64 7]) (.int .i64 2)).run Tryz.prog w = .ok (.int .i64 5) w := fun _ => by kernel_rfl
        have hr2 : R = ((n : Int) == 5) := by
          rw [hr]
          by_cases he : n = 5
          · rw [he]; rfl
          · rw [beq_false he]
            exact (beq_eq_false_iff_ne.2 (show (n : Int) ≠ 5 by omega)).symm
        clear hr
        go_wp2
        go_ret
        exact ⟨by rw [hr2]; rfl, rfl⟩
      · have hr : R = cond (passB n 5) (mrB n [7]) false := by rw [← hb]; show cond (Nat.beq (n % 5) 0) _ _ = _; rw [beq_false hd]; rfl
        have hdi : (n : Int) % 5 ≠ 0 := by omega
        clear hb HI hd
        have hix : ∀ w, (Instr.index 89 (.agg #[.int .i64 2, .int .i64 3, .int .i64 5, .int .i64 7]) (.int .i64 2)).run Tryz.prog w = .ok (.int .i64 5) w := fun _ => by kernel_rfl
        go_wp2_with fail
        refine (CP.out 5 (by decide)).mono ?_
        rintro e w1 ⟨rfl, rfl⟩
        clear CP
        cases hpb : passB n 5 with
        | false =>
          have hr2 : R = false := by rw [hr, hpb]; rfl
          clear hr hpb
          subst hr2
          go_wp2
          go_ret
          exact ⟨rfl, rfl⟩
        | true =>
          have HR := Lib.hid (show mrB n [7] = R by rw [hr, hpb]; rfl)
          clear hr hpb
          go_wp2
          go_roundw
          case rel => exact ⟨3, rfl, Or.inr (Or.inr (Or.inr (Or.inl ⟨rfl, HR⟩))), trivial⟩
          case measure => first | decide | (simp only [intOf]; omega)
    · have hb : mrB n [7] = R := HI.out
      by_cases hd : n % 7 = 0
      · have hr : R = Nat.beq n 7 := by rw [← hb]; show cond (Nat.beq (n % 7) 0) _ _ = _; rw [hd]; rfl
        have hdi : (n : Int) % 7 = 0 := by omega
        clear hb HI hd CP
        have hix : ∀ w, (Instr.index 89 (.agg #[.int .i64 2, .int .i64 3, .int .i64 5, .int .i64 7]) (.int .i64 3)).run Tryz.prog w = .ok (.int .i64 7) w := fun _ => by kernel_rfl
        have hr2 : R = ((n : Int) == 7) := by
          rw [hr]
          by_cases he : n = 7
          · rw [he]; rfl
          · rw [beq_false he]
            exact (beq_eq_false_iff_ne.2 (show (n : Int) ≠ 7 by omega)).symm
        clear hr
        go_wp2
        go_ret
        exact ⟨by rw [hr2]; rfl, rfl⟩
      · have hr : R = cond (passB n 7) (mrB n []) false := by rw [← hb]; show cond (Nat.beq (n % 7) 0) _ _ = _; rw [beq_false hd]; rfl
        have hdi : (n : Int) % 7 ≠ 0 := by omega
        clear hb HI hd
        have hix : ∀ w, (Instr.index 89 (.agg #[.int .i64 2, .int .i64 3, .int .i64 5, .int .i64 7]) (.int .i64 3)).run Tryz.prog w = .ok (.int .i64 7) w := fun _ => by kernel_rfl
        go_wp2_with fail
        refine (CP.out 7 (by decide)).mono ?_
        rintro e w1 ⟨rfl, rfl⟩
        clear CP
        cases hpb : passB n 7 with
        | false =>
          have hr2 : R = false := by rw [hr, hpb]; rfl
          clear hr hpb
          subst hr2
          go_wp2
          go_ret
          exact ⟨rfl, rfl⟩
        | true =>
          have HR := Lib.hid (show mrB n [] = R by rw [hr, hpb]; rfl)
          clear hr hpb
          go_wp2
          go_roundw
          case rel => exact ⟨4, rfl, Or.inr (Or.inr (Or.inr (Or.inr (⟨rfl, HR⟩)))), trivial⟩
          case measure => first | decide | (simp only [intOf]; omega)
    · have hb : R = true := HI.out.symm
      subst hb
      clear HI CP
      go_wp2
      go_ret
      exact ⟨rfl, rfl⟩
end Go.Proofs.YthicfkeiggcjjaaGreatDoor
