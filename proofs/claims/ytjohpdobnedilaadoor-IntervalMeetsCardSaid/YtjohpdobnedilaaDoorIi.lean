/- A float's exact number as a dyad, as plain facts. No program stands here. -/
import Derived.Test.YtjohpdobnedilaaDoorHd
import Derived.Test.YtjohpdobnedilaaDoorGp
namespace Go.Proofs.YtjohpdobnedilaaDoor
open Go.RowKit

/-- a float's number -/
def fdy (f : Nat) : Dy := if finB f then dmk (fzs f) (-1074) else none

/-- its parts -/
theorem fdy_parts {f t : Nat} (hf : finB f = true) (h0 : sig f ≠ 0) (ht : IsTz (sig f) t) : fdy f = some (if fneg f then -((sig f / 2 ^ t : Nat) : Int) else ((sig f / 2 ^ t : Nat) : Int), -1074 + (fsh f : Int) + t) ∧ sig f / 2 ^ t < 9007199254740992 ∧ sig f / 2 ^ t ≠ 0 := by
  rcases ht with ⟨h, _⟩ | ⟨_, m, hm⟩
  · exact absurd h h0
  · have hp : 0 < 2 ^ t := Nat.pow_pos (by omega)
    have hd : sig f / 2 ^ t = 2 * m + 1 := by rw [hm, Nat.mul_div_cancel_left _ hp]
    have hlt : sig f / 2 ^ t < 9007199254740992 := Nat.lt_of_le_of_lt (Nat.div_le_self _ _) (sig_lt f)
    refine ⟨?_, hlt, by omega⟩
    rw [hd] at hlt ⊢
    have hfin : fmag f < 9218868437227405312 := of_decide_eq_true hf
    have hsh : fsh f ≤ 2045 := by unfold fsh ffld; omega
    have ht52 : t < 53 := by
      have h1 : 2 ^ t < 2 ^ 53 := by
        have h2 : 2 ^ t ≤ sig f := by rw [hm]; exact Nat.le_mul_of_pos_right _ (by omega)
        exact Nat.lt_of_le_of_lt h2 (sig_lt f)
      exact (Nat.pow_lt_pow_iff_right (by omega)).1 h1
    have hz : fz f = (2 * m + 1) * 2 ^ (t + fsh f) := by rw [Nat.pow_add, ← Nat.mul_assoc, Nat.mul_comm (2 * m + 1), ← hm]; rfl
    have hc : ((fz f : Nat) : Int) = ((2 * m + 1 : Nat) : Int) * 2 ^ (t + fsh f) := by rw [hz, Int.natCast_mul, Int.natCast_pow]; rfl
    have hv : fzs f = (if fneg f then -((2 * m + 1 : Nat) : Int) else ((2 * m + 1 : Nat) : Int)) * 2 ^ (t + fsh f) := by
      unfold fzs
      rw [hc]
      cases fneg f
      · rfl
      · simp only [if_true]; rw [Int.neg_mul]
    have hb : blen (2 * m + 1) ≤ 53 := blen_le_of_lt (show 2 * m + 1 < 2 ^ 53 from hlt)
    unfold fdy
    rw [hf, if_pos rfl, hv, dmk_shift]
    rw [show (-1074 : Int) + ((t + fsh f : Nat) : Int) = -1074 + (fsh f : Int) + t by omega]
    refine dmk_norm (Or.inr ⟨?_, by omega, ?_⟩)
    · split <;> omega
    · have e1 : (if fneg f then -((2 * m + 1 : Nat) : Int) else ((2 * m + 1 : Nat) : Int)).natAbs = 2 * m + 1 := by split <;> omega
      rw [e1]
      omega

theorem fdy_zero {f : Nat} (h : zeroB f = true) : fdy f = some (0, 0) := by
  have h1 : fmag f = 0 := of_decide_eq_true h
  have h2 : fz f = 0 := (fz_zero f).2 h1
  unfold fdy finB fzs
  rw [decide_eq_true (by omega), if_pos rfl, h2]
  have : (if fneg f then -((0 : Nat) : Int) else ((0 : Nat) : Int)) = 0 := by split <;> rfl
  rw [this, dmk_zero]

theorem fz_bound {f : Nat} (h : finB f = true) : fz f < 2 ^ (52 + low46) := by
  rw [Nat.pow_add, ← fz_inf, ← fz_mag f]
  exact fz_lt (of_decide_eq_true h) (Nat.le_refl _)
theorem low46_le : 52 + low46 = 2098 := rfl
theorem fzs_abs (f : Nat) : (fzs f).natAbs = fz f := by unfold fzs; split <;> omega
theorem fdy_is {f : Nat} (h : finB f = true) : Is (fdy f) 1074 (fzs f) := by
  unfold fdy
  rw [h, if_pos rfl]
  exact Is.of_dmk (S := 1074) (B := 52 + low46) (by omega) (by rw [fzs_abs]; exact fz_bound h) (by rw [low46_le]; omega)

/-- two numbers of floats compare as the floats do -/
theorem fin_nan {f : Nat} (h : finB f = true) : nanB f = false := by
  have h1 : fmag f < 9218868437227405312 := of_decide_eq_true h
  exact decide_eq_false (by omega)
theorem fdy_rank {a b : Nat} (ha : finB a = true) (hb : finB b = true) : sgn3 (sc (fdy a)) (sc (fdy b)) = sgn3 (frank a) (frank b) := by
  rw [is_cmp (fdy_is ha) (fdy_is hb) (by omega), ← fs_fzs, ← fs_fzs]
  obtain ⟨h1, h2⟩ := fs_rank (T := 1074) (fin_nan ha) (fin_nan hb)
  unfold sgn3
  by_cases c1 : fs a 1074 < fs b 1074
  · rw [if_pos c1, if_pos (h1.1 c1)]
  · rw [if_neg c1, if_neg (fun h => c1 (h1.2 h))]
    by_cases c2 : fs a 1074 = fs b 1074
    · rw [if_neg (by omega), if_neg (by have := h2.1 c2; omega)]
    · have c3 : frank a ≠ frank b := fun h => c2 (h2.2 h)
      have c4 : ¬ frank a < frank b := fun h => c1 (h1.2 h)
      rw [if_pos (by omega), if_pos (by omega)]
theorem fdy_some {f : Nat} (h : finB f = true) : fdy f ≠ none := by
  obtain ⟨m, e, h1, _⟩ := fdy_is h
  rw [h1]; simp
end Go.Proofs.YtjohpdobnedilaaDoor
