import Derived.Test.YtlpclahlolhjfaaDoorMoPlU8
namespace Go.Proofs.YtlpclahlolhjfaaDoor
open Go.RowKit

set_option maxRecDepth 100000 in
set_option maxHeartbeats 4000000 in
theorem isPrime_any (p : Int) (w : World) (hT : Table64 w) :
    Calls Tryd.prog 6 #[.int .i64 p] w fun e w' => e = .returned (.bool (mr p)) ∧ w = w' := by
  by_cases h1 : p < 2
  · have hr : mr p = false := by unfold mr; rw [decide_eq_false (show ¬ (2 ≤ p ∧ p ≤ 2147483647) by omega)]; rfl
    rw [hr]
    clear hT hr
    go_enter Tryd.func6, Tryd.ntmps6
    go_wp2
    go_ret
    exact ⟨rfl, rfl⟩
  by_cases h2 : 2147483647 < p
  · have hr : mr p = false := by unfold mr; rw [decide_eq_false (show ¬ (2 ≤ p ∧ p ≤ 2147483647) by omega)]; rfl
    rw [hr]
    clear hT hr
    go_enter Tryd.func6, Tryd.ntmps6
    go_wp2
    go_ret
    exact ⟨rfl, rfl⟩
  obtain ⟨n, rfl⟩ := Int.eq_ofNat_of_zero_le (show 0 ≤ p by omega)
  obtain ⟨R, hR⟩ : ∃ R, mrB n [2, 3, 5, 7] = R := ⟨_, rfl⟩
  have hr : mr (n : Int) = R := by unfold mr; rw [decide_eq_true (show 2 ≤ (n : Int) ∧ (n : Int) ≤ 2147483647 by omega), Bool.true_and]; exact hR
  rw [hr]
  have CP := Lib.hid (fun (b : Nat) (hb : b ≤ 7) => passes_any n b w hb (by omega) (by omega) hT)
  have HR := Lib.hid hR
  clear hr hT hR
  go_enter Tryd.func6, Tryd.ntmps6
  go_wp2
  go_loopw [12] (fun iv wr => ∃ z : Int, iv = .int .i64 z ∧ ((z = 0 ∧ Hid (mrB n [2, 3, 5, 7] = R)) ∨ (z = 1 ∧ Hid (mrB n [3, 5, 7] = R)) ∨ (z = 2 ∧ Hid (mrB n [5, 7] = R)) ∨ (z = 3 ∧ Hid (mrB n [7] = R)) ∨ (z = 4 ∧ Hid (mrB n [] = R))) ∧ w = wr)
    (fun iv _ => 4 - (intOf iv).toNat)
  case atStart => exact ⟨0, rfl, Or.inl ⟨rfl, HR⟩, rfl⟩
  case round =>
    obtain ⟨z, rfl, hz, rfl⟩ := hrel
    clear HR
    rcases hz with ⟨rfl, HI⟩ | ⟨rfl, HI⟩ | ⟨rfl, HI⟩ | ⟨rfl, HI⟩ | ⟨rfl, HI⟩
    · have hb : mrB n [2, 3, 5, 7] = R := HI.out
      by_cases hd : n % 2 = 0
      · have hr : R = Nat.beq n 2 := by rw [← hb]; show cond (Nat.beq (n % 2) 0) _ _ = _; rw [hd]; rfl
        have hdi : (n : Int) % 2 = 0 := by omega
        clear hb HI hd CP
        have hix : ∀ w, (Instr.index 40 (.agg #[.int .i64 2, .int .i64 3, .int .i64 5, .int .i64 7]) (.int .i64 0)).run Tryd.prog w = .ok (.int .i64 2) w := fun _ => by kernel_rfl
        have hr2 : R = ((n : Int) == 2) := by
          rw [hr]
          by_cases he : n = 2
          · rw [he]; rfl
          · rw [beq_false he]
            exact (beq_eq_false_iff_ne.2 (show (n : Int) ≠ 2 by omega)).symm
        clear hr
        go_wp2
        go_ret
        exact ⟨by rw [hr2]; rfl, rfl⟩
      · have hr : R = cond (passB n 2) (mrB n [3, 5, 7]) false := by rw [← hb]; show cond (Nat.beq (n % 2) 0) _ _ = _; rw [beq_false hd]; rfl
        have hdi : (n : Int) % 2 ≠ 0 := by omega
        clear hb HI hd
        have hix : ∀ w, (Instr.index 40 (.agg #[.int .i64 2, .int .i64 3, .int .i64 5, .int .i64 7]) (.int .i64 0)).run Tryd.prog w = .ok (.int .i64 2) w := fun _ => by kernel_rfl
        go_wp2_with fail
        refine (CP.out 2 (by decide)).mono ?_
        rintro e w1 ⟨rfl, rfl⟩
        clear CP
        cases hpb : passB n 2 with
        | false =>
          have hr2 : R = false := by rw [hr, hpb]; rfl
          clear hr hpb
          subst hr2
          go_wp2
          go_ret
          exact ⟨rfl, rfl⟩
        | true =>
          have HR := Lib.hid (show mrB n [3, 5, 7] = R by rw [hr, hpb]; rfl)
          clear hr hpb
          go_wp2
          go_roundw
          case rel => exact ⟨1, rfl, Or.inr (Or.inl ⟨rfl, HR⟩), trivial⟩
          case measure => first | decide | (simp only [intOf]; omega)
    · have hb : mrB n [3, 5, 7] = R := HI.out
      by_cases hd : n % 3 = 0
      · have hr : R = Nat.beq n 3 := by rw [← hb]; show cond (Nat.beq (n % 3) 0) _ _ = _; rw [hd]; rfl
        have hdi : (n : Int) % 3 = 0 := by omega
        clear hb HI hd CP
        have hix : ∀ w, (Instr.index 40 (.agg #[.int .i64 2, .int .i64 3, .int .i64 5, .int .i64 7]) (.int .i64 1)).run Tryd.prog w = .ok (.int .i64 3) w := fun _ => by kernel_rfl
        have hr2 : R = ((n : Int) == 3) := by
          rw [hr]
          by_cases he : n = 3
          · rw [he]; rfl
          · rw [beq_false he]
            exact (beq_eq_false_iff_ne.2 (show (n : Int) ≠ 3 by omega)).symm
        clear hr
        go_wp2
        go_ret
        exact ⟨by rw [hr2]; rfl, rfl⟩
      · have hr : R = cond (passB n 3) (mrB n [5, 7]) false := by rw [← hb]; show cond (Nat.beq (n % 3) 0) _ _ = _; rw [beq_false hd]; rfl
        have hdi : (n : Int) % 3 ≠ 0 := by omega
        clear hb HI hd
        have hix : ∀ w, (Instr.index 40 (.agg #[.int .i64 2, .int .i64 3, .int .i64 5, .int .i64 7]) (.int .i64 1)).run Tryd.prog w = .ok (.int .i64 3) w := fun _ => by kernel_rfl
        go_wp2_with fail
        refine (CP.out 3 (by decide)).mono ?_
        rintro e w1 ⟨rfl, rfl⟩
        clear CP
        cases hpb : passB n 3 with
        | false =>
          have hr2 : R = false := by rw [hr, hpb]; rfl
          clear hr hpb
          subst hr2
          go_wp2
          go_ret
          exact ⟨rfl, rfl⟩
        | true =>
          have HR := Lib.hid (show mrB n [5, 7] = R by rw [hr, hpb]; rfl)
          clear hr hpb
          go_wp2
          go_roundw
          case rel => exact ⟨2, rfl, Or.inr (Or.inr (Or.inl ⟨rfl, HR⟩)), trivial⟩
          case measure => first | decide | (simp only [intOf]; omega)
    · have hb : mrB n [5, 7] = R := HI.out
      by_cases hd : n % 5 = 0
      · have hr : R = Nat.beq n 5 := by rw [← hb]; show cond (Nat.beq (n % 5) 0) _ _ = _; rw [hd]; rfl
        have hdi : (n : Int) % 5 = 0 := by omega
        clear hb HI hd CP
        have hix : ∀ w, (Instr.index 40 (.agg #[.int .i64 2, .int .i64 3, .int .i64 5, .int .i64 7]) (.int .i64 2)).run Tryd.prog w = .ok (.int .i64 5) w := fun _ => by kernel_rfl
        have hr2 : R = ((n : Int) == 5) := by
          rw [hr]
          by_cases he : n = 5
          · rw [he]; rfl
          · rw [beq_false he]
            exact (beq_eq_false_iff_ne.2 (show (n : Int) ≠ 5 by omega)).symm
        clear hr
        go_wp2
        go_ret
        exact ⟨by rw [hr2]; rfl, rfl⟩
      · have hr : R = cond (passB n 5) (mrB n [7]) false := by rw [← hb]; show cond (Nat.beq (n % 5) 0) _ _ = _; rw [beq_false hd]; rfl
        have hdi : (n : Int) % 5 ≠ 0 := by omega
        clear hb HI hd
        have hix : ∀ w, (Instr.index 40 (.agg #[.int .i64 2, .int .i64 3, .int .i64 5, .int .i64 7]) (.int .i64 2)).run Tryd.prog w = .ok (.int .i64 5) w := fun _ => by kernel_rfl
        go_wp2_with fail
        refine (CP.out 5 (by decide)).mono ?_
        rintro e w1 ⟨rfl, rfl⟩
        clear CP
        cases hpb : passB n 5 with
        | false =>
          have hr2 : R = false := by rw [hr, hpb]; rfl
          clear hr hpb
          subst hr2
          go_wp2
          go_ret
          exact ⟨rfl, rfl⟩
        | true =>
          have HR := Lib.hid (show mrB n [7] = R by rw [hr, hpb]; rfl)
          clear hr hpb
          go_wp2
          go_roundw
          case rel => exact ⟨3, rfl, Or.inr (Or.inr (Or.inr (Or.inl ⟨rfl, HR⟩))), trivial⟩
          case measure => first | decide | (simp only [intOf]; omega)
    · have hb : mrB n [7] = R := HI.out
      by_cases hd : n % 7 = 0
      · have hr : R = Nat.beq n 7 := by rw [← hb]; show cond (Nat.beq (n % 7) 0) _ _ = _; rw [hd]; rfl
        have hdi : (n : Int) % 7 = 0 := by omega
        clear hb HI hd CP
        have hix : ∀ w, (Instr.index 40 (.agg #[.int .i64 2, .int .i64 3, .int .i64 5, .int .i64 7]) (.int .i64 3)).run Tryd.prog w = .ok (.int .i64 7) w := fun _ => by kernel_rfl
        have hr2 : R = ((n : Int) == 7) := by
          rw [hr]
          by_cases he : n = 7
          · rw [he]; rfl
          · rw [beq_false he]
            exact (beq_eq_false_iff_ne.2 (show (n : Int) ≠ 7 by omega)).symm
        clear hr
        go_wp2
        go_ret
        exact ⟨by rw [hr2]; rfl, rfl⟩
      · have hr : R = cond (passB n 7) (mrB n []) false := by rw [← hb]; show cond (Nat.beq (n % 7) 0) _ _ = _; rw [beq_false hd]; rfl
        have hdi : (n : Int) % 7 ≠ 0 := by omega
        clear hb HI hd
        have hix : ∀ w, (Instr.index 40 (.agg #[.int .i64 2, .int .i64 3, .int .i64 5, .int .i64 7]) (.int .i64 3)).run Tryd.prog w = .ok (.int .i64 7) w := fun _ => by kernel_rfl
        go_wp2_with fail
        refine (CP.out 7 (by decide)).mono ?_
        rintro e w1 ⟨rfl, rfl⟩
        clear CP
        cases hpb : passB n 7 with
        | false =>
          have hr2 : R = false := by rw [hr, hpb]; rfl
          clear hr hpb
          subst hr2
          go_wp2
          go_ret
          exact ⟨rfl, rfl⟩
        | true =>
          have HR := Lib.hid (show mrB n [] = R by rw [hr, hpb]; rfl)
          clear hr hpb
          go_wp2
          go_roundw
          case rel => exact ⟨4, rfl, Or.inr (Or.inr (Or.inr (Or.inr (⟨rfl, HR⟩)))), trivial⟩
          case measure => first | decide | (simp only [intOf]; omega)
    · have hb : R = true := HI.out.symm
      subst hb
      clear HI CP
      go_wp2
      go_ret
      exact ⟨rfl, rfl⟩
end Go.Proofs.YtlpclahlolhjfaaDoor
