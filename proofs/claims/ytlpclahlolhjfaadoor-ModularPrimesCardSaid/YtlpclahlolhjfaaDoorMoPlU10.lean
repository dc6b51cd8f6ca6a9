import Derived.Test.YtlpclahlolhjfaaDoorMoPlU8
import Derived.Test.YtlpclahlolhjfaaDoorMoPlU3
namespace Go.Proofs.YtlpclahlolhjfaaDoor
open Go.RowKit

/-- no divisor below d -/
def NoBelow (n d : Nat) : Prop := ∀ e, 2 ≤ e → e < d → e * e ≤ n → n % e ≠ 0

set_option maxRecDepth 100000 in
set_option maxHeartbeats 4000000 in
theorem refIsPrime_any (p : Int) (w : World) :
    Calls Tryd.prog 7 #[.int .i64 p] w fun e w' => e = .returned (.bool (isP p)) ∧ w = w' := by
  by_cases h1 : p < 2
  · have hr : isP p = false := isP_of (by simp; omega)
    rw [hr]
    clear hr
    go_enter Tryd.func7, Tryd.ntmps7
    go_wp2
    go_ret
    exact ⟨rfl, rfl⟩
  by_cases h2 : 2147483647 < p
  · have hr : isP p = false := isP_of (by simp; omega)
    rw [hr]
    clear hr
    go_enter Tryd.func7, Tryd.ntmps7
    go_wp2
    go_ret
    exact ⟨rfl, rfl⟩
  obtain ⟨n, rfl⟩ := Int.eq_ofNat_of_zero_le (show 0 ≤ p by omega)
  obtain ⟨R, hR⟩ : ∃ R, isP (n : Int) = R := ⟨_, rfl⟩
  rw [hR]
  have HR := Lib.hid (show R = true ↔ noDiv n 2 by rw [← hR, isP_iff]; exact ⟨fun h => h.2.2, fun h => ⟨by omega, by omega, h⟩⟩)
  clear hR
  go_enter Tryd.func7, Tryd.ntmps7
  go_wp2
  go_loopw [3] (fun iv wr => ∃ d : Int, 2 ≤ d ∧ d ≤ 46341 ∧ iv = .int .i64 d ∧ Hid (NoBelow n d.toNat) ∧ w = wr)
    (fun iv _ => 46341 - (intOf iv).toNat)
  case atStart => exact ⟨2, by omega, by omega, rfl, Lib.hid (fun e h1 h2 => absurd h2 (by simp; omega)), rfl⟩
  case round =>
    obtain ⟨d, hd, hd1, rfl, HI, rfl⟩ := hrel
    have hdd : d * d ≤ 46341 * 46341 := Int.mul_le_mul hd1 hd1 (by omega) (by omega)
    have hdd0 : 0 ≤ d * d := Int.mul_nonneg (by omega) (by omega)
    obtain ⟨D, hD⟩ : ∃ D, d * d = D := ⟨_, rfl⟩
    have hw : IntKind.i64.wrap D = D := IntWalk.i64_in _ (by omega)
    have hdn : d = (d.toNat : Int) := by omega
    have hDn : D = ((d.toNat * d.toNat : Nat) : Int) := by rw [← hD, Int.natCast_mul, ← hdn]
    rw [hD] at hdd hdd0
    by_cases hle : D ≤ (n : Int)
    · have hd3 : d ≤ 46340 := by
        rcases Int.lt_or_le d 46341 with h | h
        · omega
        · have := Int.mul_le_mul h h (by omega) (by omega)
          omega
      have ht : (n : Int).tmod d = (n : Int) % d := Int.tmod_eq_emod_of_nonneg (by omega)
      obtain ⟨z, hz⟩ : ∃ z, (n : Int) % d = z := ⟨_, rfl⟩
      have hzn : z = ((n % d.toNat : Nat) : Int) := by rw [← hz, Int.natCast_emod, ← hdn]
      rw [hz] at ht
      have hz0 := Int.emod_nonneg (n : Int) (show d ≠ 0 by omega)
      rw [hz] at hz0
      by_cases h0 : z = 0
      · have hr : R = false := by
          cases hc : R with
          | false => rfl
          | true => exact absurd (show n % d.toNat = 0 by omega) (HR.out.1 hc d.toNat (by omega) (by omega))
        subst hr
        subst h0
        clear hz hzn hz0 HI HR hDn hdn
        go_wp2
        go_ret
        exact ⟨rfl, rfl⟩
      · have hn : NoBelow n (d + 1).toNat := by
          intro e he he1 hee
          rcases Nat.lt_or_ge e d.toNat with h | h
          · exact HI.out e he h hee
          · obtain rfl : e = d.toNat := by omega
            omega
        have HN := Lib.hid hn
        clear hz hzn hz0 HI HR hDn hdn hn
        go_wp2
        go_roundw
        case rel => exact ⟨d + 1, by omega, by omega, rfl, HN, trivial⟩
        case measure => simp [intOf]; omega
    · have hr : R = true := HR.out.2 fun e he hee => HI.out e he (by
        rcases Nat.lt_or_ge e d.toNat with h | h
        · exact h
        · have := Nat.mul_le_mul h h; omega) hee
      subst hr
      clear HI HR hDn hdn
      go_wp2
      go_ret
      exact ⟨rfl, rfl⟩
end Go.Proofs.YtlpclahlolhjfaaDoor

namespace Go.Proofs.YtlpclahlolhjfaaDoor
open Go.RowKit

set_option maxRecDepth 100000 in
set_option maxHeartbeats 400000 in
theorem signed_zero (nb : Bool) (ao : Option Addr) (cap : Nat) (w : World) :
    Calls Tryd.prog 42 #[.bool nb, .slice ao 0 cap] w fun e w' => e = .returned (.agg #[.bool false, .slice none 0 0]) ∧ Below w.heap.size w w' := by
  go_enter Tryd.func42, Tryd.ntmps42
  go_wp2
  exact bodyPost_ret (v := .agg #[.bool false, .slice none 0 0]) (by simp [results, Tryd.results42, go_sem]) rfl ⟨rfl, ((Below.refl _ _).alloc (Nat.le_refl _) _)⟩
set_option maxRecDepth 100000 in
set_option maxHeartbeats 400000 in
theorem signed_pos (nb : Bool) (ao : Option Addr) (n cap : Nat) (w : World) (h : 0 < n) :
    Calls Tryd.prog 42 #[.bool nb, .slice ao n cap] w fun e w' => e = .returned (.agg #[.bool nb, .slice ao n cap]) ∧ Below w.heap.size w w' := by
  have hn : ((n : Int) == 0) = false := beq_eq_false_iff_ne.2 (by omega)
  go_enter Tryd.func42, Tryd.ntmps42
  go_wp2
  exact bodyPost_ret (v := .agg #[.bool nb, .slice ao n cap]) (by simp [results, Tryd.results42, go_sem]) rfl ⟨rfl, ((Below.refl _ _).alloc (Nat.le_refl _) _)⟩

/-- whatever the limbs: they stay, and zero is not negative -/
theorem signed_any (nb : Bool) (ao : Option Addr) (n cap : Nat) (zs : List Int) (w : World) (h : Sl w ao n cap zs) :
    Calls Tryd.prog 42 #[.bool nb, .slice ao n cap] w fun e w' => ∃ ao' cap', e = .returned (.agg #[.bool (nb && decide (0 < n)), .slice ao' n cap']) ∧ Sl w' ao' n cap' zs ∧ Below w.heap.size w w' := by
  by_cases h0 : 0 < n
  · refine (signed_pos nb ao n cap w h0).mono fun e w' ⟨he, hw⟩ => ⟨ao, cap, ?_, h.below hw, hw⟩
    rw [he]; simp [h0]
  · obtain rfl : n = 0 := by omega
    have hz : zs = [] := List.eq_nil_of_length_eq_zero h.len
    subst hz
    exact (signed_zero nb ao cap w).mono fun e w' ⟨he, hw⟩ => ⟨none, 0, by rw [he]; simp, Sl.nil w', hw⟩
end Go.Proofs.YtlpclahlolhjfaaDoor
