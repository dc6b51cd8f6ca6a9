import Derived.Test.YtagahbbjljndeaaGreatDoorMoNuU7
import Derived.Test.YtagahbbjljndeaaGreatDoorMoNuU3
namespace Go.Proofs.YtagahbbjljndeaaGreatDoor
open Go.RowKit

set_option maxRecDepth 100000 in
set_option maxHeartbeats 4000000 in
theorem isPrime_any (p : Int) (w : World) (hT : Table64 w) :
    Calls Tryz.prog 28 #[.int .i64 p] w fun e w' => e = .returned (.bool (mr p)) ∧ w = w' := by
  by_cases h1 : p < 2
  · have hr : mr p = false := by unfold mr; rw [decide_eq_false (show ¬ (2 ≤ p ∧ p ≤ 2147483647) by omega)]; rfl
    rw [hr]
    clear hT hr
    go_enter Tryz.func28, Tryz.ntmps28
    go_wp2
    go_ret
    exact ⟨rfl, rfl⟩
  by_cases h2 : 2147483647 < p
  · have hr : mr p = false := by unfold mr; rw [decide_eq_false (show ¬ (2 ≤ p ∧ p ≤ 2147483647) by omega)]; rfl
    rw [hr]
    clear hT hr
    go_enter Tryz.func28, Tryz.ntmps28
    go_wp2
    go_ret
    exact ⟨rfl, rfl⟩
  obtain ⟨n, rfl⟩ := Int.eq_ofNat_of_zero_le (show 0 ≤ p by omega)
  obtain ⟨R, hR⟩ : ∃ R, mrB n [2, 3, 5, 7] = R := ⟨_, rfl⟩
  have hr : mr (n : Int) = R := by unfold mr; rw [decide_eq_true (show 2 ≤ (n : Int) ∧ (n : Int) ≤ 2147483647 by omega), Bool.true_and]; exact hR
  rw [hr]
  have CP := Lib.hid (fun (b : Nat) (hb : b ≤ 7) => passes_any n b w hb (by omega) (by omega) hT)
  have HR := Lib.hid hR
  clear hr hT hR
  go_enter Tryz.func28, Tryz.ntmps28
  go_wp2
  go_loopw [12] (fun iv wr => ∃ z : Int, iv = .int .i64 z ∧ ((z = 0 ∧ Hid (mrB n [2, 3, 5, 7] = R)) ∨ (z = 1 ∧ Hid (mrB n [3, 5, 7] = R)) ∨ (z = 2 ∧ Hid (mrB n [5, 7] = R)) ∨ (z = 3 ∧ Hid (mrB n [7] = R)) ∨ (z = 4 ∧ Hid (mrB n [] = R))) ∧ w = wr)
    (fun iv _ => 4 - (intOf iv).toNat)
  case atStart => exact ⟨0, rfl, Or.inl ⟨rfl, HR⟩, rfl⟩
  case round =>
    obtain ⟨z, rfl, hz, rfl⟩ := hrel
    clear HR
    rcases hz with ⟨rfl, HI⟩ | ⟨rfl, HI⟩ | ⟨rfl, HI⟩ | ⟨rfl, HI⟩ | ⟨rfl, HI⟩
    · have hb : mrB n [2, 3, 5, 7] = R := HI.out
      by_cases hd : n % 2 = 0
      · have hr : R = Nat.beq n 2 := by rw [← hb]; show cond (Nat.beq (n % 2) 0) _ _ = _; rw [hd]; rfl
        have hdi : (n : Int) % 2 = 0 := by omega
        clear hb HI hd CP
        have hix : ∀ w, (Instr.index 90 (.agg #[.int .i64 2, .int .i64 3, .int .i64 5, .int .i64 7]) (.int .i64 0)).run Tryz.prog w = .ok (.int .i64 2) w := fun _ => by kernel_rfl
        have hr2 : R = ((n : Int) == 2) := by
          rw [hr]
          by_cases he : n = 2
          · rw [he]; rfl
          · rw [beq_false he]
            exact (beq_eq_false_iff_ne.2 (show (n : Int) ≠ 2 by omega)).symm
        clear hr
        go_wp2
        go_ret
        exact ⟨by rw [hr2]; rfl, rfl⟩
      · have hr : R = cond (passB n 2) (mrB n [3, 5, 7]) false := by rw [← hb]; show cond (Nat.beq (n % 2) 0) _ _ = _; rw [beq_false hd]; rfl
        have hdi : (n : Int) % 2 ≠ 0 := by omega
        clear hb HI hd
        have hix : ∀ w, (Instr.index 90 (.agg #[.int .i64 2, .int .i64 3, .int .i64 5, .int .i64 7]) (.int .i64 0)).run Tryz.prog w = .ok (.int .i64 2) w := fun _ => by kernel_rfl
        go_wp2_with fail
        refine (CP.out 2 (by decide)).mono ?_
        rintro e w1 ⟨rfl, rfl⟩
        clear CP
        cases hpb : passB n 2 with
        | false =>
          have hr2 : R = false := by rw [hr, hpb]; rfl
          clear hr hpb
          subst hr2
          go_wp2
          go_ret
          exact ⟨rfl, rfl⟩
        | true =>
          have HR := Lib.hid (show mrB n [3, 5, 7] = R by rw [hr, hpb]; rfl)
          clear hr hpb
          go_wp2
          go_roundw
          case rel => exact ⟨1, rfl, Or.inr (Or.inl ⟨rfl, HR⟩), trivial⟩
          case measure => first | decide | (simp only [intOf]; omega)
    · have hb : mrB n [3, 5, 7] = R := HI.out
      by_cases hd : n % 3 = 0
      · have hr : R = Nat.beq n 3 := by rw [← hb]; show cond (Nat.beq (n % 3) 0) _ _ = _; rw [hd]; rfl
        have hdi : (n : Int) % 3 = 0 := by omega
        clear hb HI hd CP
        have hix : ∀ w, (Instr.index 90 (.agg #[.int .i64 2, .int .i64 3, .int .i64 5, .int .i64 7]) (.int .i64 1)).run Tryz.prog w = .ok (.int .i64 3) w := fun _ => by kernel_rfl
        have hr2 : R = ((n : Int) == 3) := by
          rw [hr]
          by_cases he : n = 3
          · rw [he]; rfl
          · rw [beq_false he]
            exact (beq_eq_false_iff_ne.2 (show (n : Int) ≠ 3 by omega)).symm
        clear hr
        go_wp2
        go_ret
        exact ⟨by rw [hr2]; rfl, rfl⟩
      · have hr : R = cond (passB n 3) (mrB n [5, 7]) false := by rw [← hb]; show cond (Nat.beq (n % 3) 0) _ _ = _; rw [beq_false hd]; rfl
        have hdi : (n : Int) % 3 ≠ 0 := by omega
        clear hb HI hd
        have hix : ∀ w, (Instr.index 90 (.agg #[.int .i64 2, .int .i64 3, .int .i64 5, .int .i64 7]) (.int .i64 1)).run Tryz.prog w = .ok (.int .i64 3) w := fun _ => by kernel_rfl
        go_wp2_with fail
        refine (CP.out 3 (by decide)).mono ?_
        rintro e w1 ⟨rfl, rfl⟩
        clear CP
        cases hpb : passB n 3 with
        | false =>
          have hr2 : R = false := by rw [hr, hpb]; rfl
          clear hr hpb
          subst hr2
          go_wp2
          go_ret
          exact ⟨rfl, rfl⟩
        | true =>
          have HR := Lib.hid (show mrB n [5, 7] = R by rw [hr, hpb]; rfl)
          clear hr hpb
          go_wp2
          go_roundw
          case rel => exact ⟨2, rfl, Or.inr (Or.inr (Or.inl ⟨rfl, HR⟩)), trivial⟩
          case measure => first | decide | (simp only [intOf]; omega)
    · have hb : mrB n [5, 7] = R := HI.out
      by_cases hd : n % 5 = 0
      · have hr : R = Nat.beq n 5 := by rw [← hb]; show cond (Nat.beq (n % 5) 0) _ _ = _; rw [hd]; rfl
        have hdi : (n : Int) % 5 = 0 := by omega
        clear hb HI hd CP
        have hix : ∀ w, (Instr.index 90 (.agg #[.int .i64 2, .int .i64 3, .int .i64 5, .int .i64 7]) (.int .i64 2)).run Tryz.prog w = .ok (.int .i64 5) w := fun _ => by kernel_rfl
        have hr2 : R = ((n : Int) == 5) := by
          rw [hr]
          by_cases he : n = 5
          · rw [he]; rfl
          · rw [beq_false he]
            exact (beq_eq_false_iff_ne.2 (show (n : Int) ≠ 5 by omega)).symm
        clear hr
        go_wp2
        go_ret
        exact ⟨by rw [hr2]; rfl, rfl⟩
      · have hr : R = cond (passB n 5) (mrB n [7]) false := by rw [← hb]; show cond (Nat.beq (n % 5) 0) _ _ = _; rw [beq_false hd]; rfl
        have hdi : (n : Int) % 5 ≠ 0 := by omega
        clear hb HI hd
        have hix : ∀ w, (Instr.index 90 (.agg #[.int .i64 2, .int .i64 3, .int .i64 5, .int .i64 7]) (.int .i64 2)).run Tryz.prog w = .ok (.int .i64 5) w := fun _ => by kernel_rfl
        go_wp2_with fail
        refine (CP.out 5 (by decide)).mono ?_
        rintro e w1 ⟨rfl, rfl⟩
        clear CP
        cases hpb : passB n 5 with
        | false =>
          have hr2 : R = false := by rw [hr, hpb]; rfl
          clear hr hpb
          subst hr2
          go_wp2
          go_ret
          exact ⟨rfl, rfl⟩
        | true =>
          have HR := Lib.hid (show mrB n [7] = R by rw [hr, hpb]; rfl)
          clear hr hpb
          go_wp2
          go_roundw
          case rel => exact ⟨3, rfl, Or.inr (Or.inr (Or.inr (Or.inl ⟨rfl, HR⟩))), trivial⟩
          case measure => first | decide | (simp only [intOf]; omega)
    · have hb : mrB n [7] = R := HI.out
      by_cases hd : n % 7 = 0
      · have hr : R = Nat.beq n 7 := by rw [← hb]; show cond (Nat.beq (n % 7) 0) _ _ = _; rw [hd]; rfl
        have hdi : (n : Int) % 7 = 0 := by omega
        clear hb HI hd CP
        have hix : ∀ w, (Instr.index 90 (.agg #[.int .i64 2, .int .i64 3, .int .i64 5, .int .i64 7]) (.int .i64 3)).run Tryz.prog w = .ok (.int .i64 7) w := fun _ => by kernel_rfl
        have hr2 : R = ((n : Int) == 7) := by
          rw [hr]
          by_cases he : n = 7
          · rw [he]; rfl
          · rw [beq_false he]
            exact (beq_eq_false_iff_ne.2 (show (n : Int) ≠ 7 by omega)).symm
        clear hr
        go_wp2
        go_ret
        exact ⟨by rw [hr2]; rfl, rfl⟩
      · have hr : R = cond (passB n 7) (mrB n []) false := by rw [← hb]; show cond (Nat.beq (n % 7) 0) _ _ = _; rw [beq_false hd]; rfl
        have hdi : (n : Int) % 7 ≠ 0 := by omega
        clear hb HI hd
        have hix : ∀ w, (Instr.index 90 (.agg #[.int .i64 2, .int .i64 3, .int .i64 5, .int .i64 7]) (.int .i64 3)).run Tryz.prog w = .ok (.int .i64 7) w := fun _ => by kernel_rfl
        go_wp2_with fail
        refine (CP.out 7 (by decide)).mono ?_
        rintro e w1 ⟨rfl, rfl⟩
        clear CP
        cases hpb : passB n 7 with
        | false =>
          have hr2 : R = false := by rw [hr, hpb]; rfl
          clear hr hpb
          subst hr2
          go_wp2
          go_ret
          exact ⟨rfl, rfl⟩
        | true =>
          have HR := Lib.hid (show mrB n [] = R by rw [hr, hpb]; rfl)
          clear hr hpb
          go_wp2
          go_roundw
          case rel => exact ⟨4, rfl, Or.inr (Or.inr (Or.inr (Or.inr (⟨rfl, HR⟩)))), trivial⟩
          case measure => first | decide | (simp only [intOf]; omega)
    · have hb : R = true := HI.out.symm
      subst hb
      clear HI CP
      go_wp2
      go_ret
      exact ⟨rfl, rfl⟩
end Go.Proofs.YtagahbbjljndeaaGreatDoor

namespace Go.Proofs.YtagahbbjljndeaaGreatDoor
open Go.RowKit

/-- no divisor below d -/
def NoBelow (n d : Nat) : Prop := ∀ e, 2 ≤ e → e < d → e * e ≤ n → n % e ≠ 0

set_option maxRecDepth 100000 in
set_option maxHeartbeats 4000000 in
theorem refIsPrime_any (p : Int) (w : World) :
    Calls Tryz.prog 12 #[.int .i64 p] w fun e w' => e = .returned (.bool (isP p)) ∧ w = w' := by
  by_cases h1 : p < 2
  · have hr : isP p = false := isP_of (by simp; omega)
    rw [hr]
    clear hr
    go_enter Tryz.func12, Tryz.ntmps12
    go_wp2
    go_ret
    exact ⟨rfl, rfl⟩
  by_cases h2 : 2147483647 < p
  · have hr : isP p = false := isP_of (by simp; omega)
    rw [hr]
    clear hr
    go_enter Tryz.func12, Tryz.ntmps12
    go_wp2
    go_ret
    exact ⟨rfl, rfl⟩
  obtain ⟨n, rfl⟩ := Int.eq_ofNat_of_zero_le (show 0 ≤ p by omega)
  obtain ⟨R, hR⟩ : ∃ R, isP (n : Int) = R := ⟨_, rfl⟩
  rw [hR]
  have HR := Lib.hid (show R = true ↔ noDiv n 2 by rw [← hR, isP_iff]; exact ⟨fun h => h.2.2, fun h => ⟨by omega, by omega, h⟩⟩)
  clear hR
  go_enter Tryz.func12, Tryz.ntmps12
  go_wp2
  go_loopw [3] (fun iv wr => ∃ d : Int, 2 ≤ d ∧ d ≤ 46341 ∧ iv = .int .i64 d ∧ Hid (NoBelow n d.toNat) ∧ w = wr)
    (fun iv _ => 46341 - (intOf iv).toNat)
  case atStart => exact ⟨2, by omega, by omega, rfl, Lib.hid (fun e h1 h2 => absurd h2 (by simp; omega)), rfl⟩
  case round =>
    obtain ⟨d, hd, hd1, rfl, HI, rfl⟩ := hrel
    have hdd : d * d ≤ 46341 * 46341 := Int.mul_le_mul hd1 hd1 (by omega) (by omega)
    have hdd0 : 0 ≤ d * d := Int.mul_nonneg (by omega) (by omega)
    obtain ⟨D, hD⟩ : ∃ D, d * d = D := ⟨_, rfl⟩
    have hw : IntKind.i64.wrap D = D := IntWalk.i64_in _ (by omega)
    have hdn : d = (d.toNat : Int) := by omega
    have hDn : D = ((d.toNat * d.toNat : Nat) : Int) := by rw [← hD, Int.natCast_mul, ← hdn]
    rw [hD] at hdd hdd0
    by_cases hle : D ≤ (n : Int)
    · have hd3 : d ≤ 46340 := by
        rcases Int.lt_or_le d 46341 with h | h
        · omega
        · have := Int.mul_le_mul h h (by omega) (by omega)
          omega
      have ht : (n : Int).tmod d = (n : Int) % d := Int.tmod_eq_emod_of_nonneg (by omega)
      obtain ⟨z, hz⟩ : ∃ z, (n : Int) % d = z := ⟨_, rfl⟩
      have hzn : z = ((n % d.toNat : Nat) : Int) := by rw [← hz, Int.natCast_emod, ← hdn]
      rw [hz] at ht
      have hz0 := Int.emod_nonneg (n : Int) (show d ≠ 0 by omega)
      rw [hz] at hz0
      by_cases h0 : z = 0
      · have hr : R = false := by
          cases hc : R with
          | false => rfl
          | true => exact absurd (show n % d.toNat = 0 by omega) (HR.out.1 hc d.toNat (by omega) (by omega))
        subst hr
        subst h0
        clear hz hzn hz0 HI HR hDn hdn
        go_wp2
        go_ret
        exact ⟨rfl, rfl⟩
      · have hn : NoBelow n (d + 1).toNat := by
          intro e he he1 hee
          rcases Nat.lt_or_ge e d.toNat with h | h
          · exact HI.out e he h hee
          · obtain rfl : e = d.toNat := by omega
            omega
        have HN := Lib.hid hn
        clear hz hzn hz0 HI HR hDn hdn hn
        go_wp2
        go_roundw
        case rel => exact ⟨d + 1, by omega, by omega, rfl, HN, trivial⟩
        case measure => simp [intOf]; omega
    · have hr : R = true := HR.out.2 fun e he hee => HI.out e he (by
        rcases Nat.lt_or_ge e d.toNat with h | h
        · exact h
        · have := Nat.mul_le_mul h h; omega) hee
      subst hr
      clear HI HR hDn hdn
      go_wp2
      go_ret
      exact ⟨rfl, rfl⟩
end Go.Proofs.YtagahbbjljndeaaGreatDoor

namespace Go.Proofs.YtagahbbjljndeaaGreatDoor
open Go.RowKit

set_option maxRecDepth 100000 in
set_option maxHeartbeats 400000 in
theorem signed_zero (nb : Bool) (ao : Option Addr) (cap : Nat) (w : World) :
    Calls Tryz.prog 47 #[.bool nb, .slice ao 0 cap] w fun e w' => e = .returned (.agg #[.bool false, .slice none 0 0]) ∧ Below w.heap.size w w' := by
  go_enter Tryz.func47, Tryz.ntmps47
  go_wp2
  exact bodyPost_ret (v := .agg #[.bool false, .slice none 0 0]) (by simp [results, Tryz.results47, go_sem]) rfl ⟨rfl, ((Below.refl _ _).alloc (Nat.le_refl _) _)⟩
set_option maxRecDepth 100000 in
set_option maxHeartbeats 400000 in
theorem signed_pos (nb : Bool) (ao : Option Addr) (n cap : Nat) (w : World) (h : 0 < n) :
    Calls Tryz.prog 47 #[.bool nb, .slice ao n cap] w fun e w' => e = .returned (.agg #[.bool nb, .slice ao n cap]) ∧ Below w.heap.size w w' := by
  have hn : ((n : Int) == 0) = false := beq_eq_false_iff_ne.2 (by omega)
  go_enter Tryz.func47, Tryz.ntmps47
  go_wp2
  exact bodyPost_ret (v := .agg #[.bool nb, .slice ao n cap]) (by simp [results, Tryz.results47, go_sem]) rfl ⟨rfl, ((Below.refl _ _).alloc (Nat.le_refl _) _)⟩

/-- whatever the limbs: they stay, and zero is not negative -/
theorem signed_any (nb : Bool) (ao : Option Addr) (n cap : Nat) (zs : List Int) (w : World) (h : Sl w ao n cap zs) :
    Calls Tryz.prog 47 #[.bool nb, .slice ao n cap] w fun e w' => ∃ ao' cap', e = .returned (.agg #[.bool (nb && decide (0 < n)), .slice ao' n cap']) ∧ Sl w' ao' n cap' zs ∧ Below w.heap.size w w' := by
  by_cases h0 : 0 < n
  · refine (signed_pos nb ao n cap w h0).mono fun e w' ⟨he, hw⟩ => ⟨ao, cap, ?_, h.below hw, hw⟩
    rw [he]; simp [h0]
  · obtain rfl : n = 0 := by omega
    have hz : zs = [] := List.eq_nil_of_length_eq_zero h.len
    subst hz
    exact (signed_zero nb ao cap w).mono fun e w' ⟨he, hw⟩ => ⟨none, 0, by rw [he]; simp, Sl.nil w', hw⟩
end Go.Proofs.YtagahbbjljndeaaGreatDoor
