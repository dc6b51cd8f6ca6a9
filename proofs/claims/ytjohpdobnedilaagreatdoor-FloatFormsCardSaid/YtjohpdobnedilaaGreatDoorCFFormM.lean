/- The exponent of a float and scaling by powers of two, as plain facts. No program stands here. -/
import Derived.Test.YtjohpdobnedilaaGreatDoorHf
import Derived.Test.YtjohpdobnedilaaGreatDoorGl
namespace Go.Proofs.YtjohpdobnedilaaGreatDoor
open Go.RowKit

theorem sig_blen {N t : Nat} (h0 : N ≠ 0) (ht : IsTz N t) : N / 2 ^ t * 2 ^ t = N ∧ (blen (N / 2 ^ t) : Int) = (Nat.log2 N : Int) - t + 1 ∧ N / 2 ^ t % 2 = 1 := by
  rcases ht with ⟨h, _⟩ | ⟨_, m, hm⟩
  · exact absurd h h0
  · have hp : 0 < 2 ^ t := Nat.pow_pos (by omega)
    have hd : N / 2 ^ t = 2 * m + 1 := by rw [hm, Nat.mul_div_cancel_left _ hp]
    have h1 : N / 2 ^ t * 2 ^ t = N := by rw [hd, Nat.mul_comm]; exact hm.symm
    have hle : 2 ^ t ≤ N := by rw [hm]; exact Nat.le_mul_of_pos_right _ (by omega)
    obtain ⟨h2, h3⟩ := log2_down hle
    refine ⟨h1, ?_, by omega⟩
    unfold blen
    rw [if_neg (by omega), h2]
    omega

theorem fdy_log {f : Nat} (hf : finB f = true) (h0 : sig f ≠ 0) : dm (fdy f) ≠ 0 ∧ dtop (fdy f) - 1 = -1074 + (fsh f : Int) + (Nat.log2 (sig f) : Int) := by
  have ht := tzf_isTz (sig f)
  generalize tzf (sig f) = t at *
  obtain ⟨h1, h2, h3⟩ := fdy_parts hf h0 ht
  obtain ⟨h4, h5, h6⟩ := sig_blen h0 ht
  rw [h1]
  generalize sig f / 2 ^ t = M at *
  unfold dtop dx dm
  simp only [Option.getD_some]
  have e1 : (if fneg f then -(M : Int) else (M : Int)).natAbs = M := by split <;> omega
  refine ⟨by split <;> omega, ?_⟩
  rw [e1]
  omega

/-- a scaled float rounded, from its bits -/
theorem scaled_flr {f : Nat} (hf : finB f = true) (h0 : sig f ≠ 0) {n : Int} (hn0 : -10000 ≤ n) (hn1 : n ≤ 10000) (mode : Int) : frdF (dscale (fdy f) n) mode = flr (fneg f) (sig f) (-1074 + (fsh f : Int) + n) false mode := by
  have ht := tzf_isTz (sig f)
  generalize tzf (sig f) = t at *
  obtain ⟨h1, h2, h3⟩ := fdy_parts hf h0 ht
  obtain ⟨h4, h5, h6⟩ := sig_blen h0 ht
  have hsl := fsh_lt f
  have hl : Nat.log2 (sig f) < 53 := (Nat.log2_lt h0).2 (sig_lt f)
  have htl : t ≤ 53 := by
    rcases Nat.lt_or_ge 53 t with hc | hc
    · have a1 : 2 ^ 53 ≤ 2 ^ t := Nat.pow_le_pow_right (by omega) (by omega)
      have a2 : 1 * 2 ^ t ≤ sig f / 2 ^ t * 2 ^ t := Nat.mul_le_mul_right _ (by omega)
      have := sig_lt f
      omega
    · exact hc
  rw [h1]
  generalize sig f / 2 ^ t = M at *
  show frdF (dmk _ (_ + max (-131072) (min n 131072))) mode = _
  rw [show max (-131072) (min n 131072) = n by omega]
  have e1 : (if fneg f then -(M : Int) else (M : Int)).natAbs = M := by split <;> omega
  have e2 : decide ((if fneg f then -(M : Int) else (M : Int)) < 0) = fneg f := by
    cases fneg f
    · exact decide_eq_false (by simp)
    · exact decide_eq_true (by simp; omega)
  have e3 : (if fneg f then -(M : Int) else (M : Int)) ≠ 0 := by split <;> omega
  rw [dmk_norm (Or.inr ⟨by rw [e1]; exact h6, by omega, by rw [e1]; omega⟩)]
  show rz _ _ mode = _
  unfold rz rnd
  rw [if_neg e3, e1, e2]
  unfold flr
  rw [fla_eq (fneg f) (N := M) (M := sig f) (a := t) (b := 0) (f := -1074 + (fsh f : Int) + n) mode h3 (by rw [h4, Nat.pow_zero, Nat.mul_one]) (by omega)]

theorem fla_far {neg : Bool} {N : Nat} {e e' : Int} (mode : Int) (h0 : N ≠ 0) (hN : N < 2 ^ 53) (h : 3000 < e ∧ 3000 < e' ∨ e < -3000 ∧ e' < -3000) : fla neg N e false mode = fla neg N e' false mode := by
  have hl : Nat.log2 N < 53 := (Nat.log2_lt h0).2 hN
  rcases h with ⟨h1, h2⟩ | ⟨h1, h2⟩
  · unfold fla; rw [if_pos (show e + (Nat.log2 N : Int) > 1023 by omega), if_pos (show e' + (Nat.log2 N : Int) > 1023 by omega)]
  · have key : ∀ x : Int, x < -3000 → fla neg N x false mode = if (if mode = 1 then neg else if mode = 2 then !neg else false) = true then 1 else 0 := by
      intro x hx
      have hp : fplace N x = -1074 := by unfold fplace; omega
      unfold fla
      rw [if_neg (show ¬ x + (Nat.log2 N : Int) > 1023 by omega), hp, if_neg (show ¬ (-1074 : Int) ≤ x by omega)]
      generalize hk : (-1074 - x).toNat = k
      have hk2 : 60 ≤ k := by omega
      have hpw : 2 ^ 60 ≤ 2 ^ k := Nat.pow_le_pow_right (by omega) hk2
      have hd : N / 2 ^ k = 0 := Nat.div_eq_of_lt (by omega)
      have hm : N % 2 ^ k = N := Nat.mod_eq_of_lt (by omega)
      rw [hd, hm, show ((-1074 : Int) + 1074).toNat * 4503599627370496 + 0 = 0 by rfl, Nat.zero_add]
      congr 2
      unfold fup
      rw [decide_eq_true h0, decide_eq_false (show ¬ 2 ^ k < 2 * N by omega), decide_eq_false (show ¬ 2 ^ k = 2 * N by omega)]
      simp
    rw [key e h1, key e' h2]

/-- beyond these limits a shift changes nothing more -/
theorem flr_far {f : Nat} (h0 : sig f ≠ 0) {n : Int} (neg : Bool) (mode : Int) (hfin : finB f = true) : flr neg (sig f) (-1074 + (fsh f : Int) + max (-4194) (min n 4194)) false mode = flr neg (sig f) (-1074 + (fsh f : Int) + max (-5000) (min n 5000)) false mode := by
  have hs : fsh f ≤ 2045 := by
    have h1 : fmag f < 9218868437227405312 := of_decide_eq_true hfin
    unfold fsh ffld; omega
  by_cases h : -4194 ≤ n ∧ n ≤ 4194
  · rw [show max (-4194) (min n 4194) = n by omega, show max (-5000) (min n 5000) = n by omega]
  · unfold flr
    rw [fla_far (e := -1074 + (fsh f : Int) + max (-4194) (min n 4194)) (e' := -1074 + (fsh f : Int) + max (-5000) (min n 5000)) mode h0 (sig_lt f) (by omega)]

/-- Scale of a float -/
def fscaleF (f : Nat) (n : Int) (mode : Int) : Nat := if nanB f then 9221120237041090560 else if zeroB f || infB f then f else flr (fneg f) (sig f) (-1074 + (fsh f : Int) + max (-4194) (min n 4194)) false mode
/-- Exponent of a float -/
def fexpF (f : Nat) : Int × Bool := if finB f && !zeroB f then (-1074 + (fsh f : Int) + (Nat.log2 (sig f) : Int), true) else (0, false)
theorem fin_ofN {f : Nat} (h1 : nanB f = false) (h2 : infB f = false) : finB f = true := by
  have h1 : ¬ 9218868437227405312 < fmag f := of_decide_eq_false h1
  have h2 : ¬ fmag f = 9218868437227405312 := of_decide_eq_false h2
  exact decide_eq_true (by omega)
theorem sig_nz {f : Nat} (h : zeroB f = false) : sig f ≠ 0 := fun e => by
  have h1 : ¬ fmag f = 0 := of_decide_eq_false h
  exact h1 ((sig_zero f).1 e)
end Go.Proofs.YtjohpdobnedilaaGreatDoor
