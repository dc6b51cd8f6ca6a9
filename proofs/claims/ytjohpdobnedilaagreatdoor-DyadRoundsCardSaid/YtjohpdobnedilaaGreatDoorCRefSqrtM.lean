/- Newton's method from above, as plain facts. No program stands here. -/
import Derived.Test.YtjohpdobnedilaaGreatDoorCRefDivMod
import Derived.Test.YtjohpdobnedilaaGreatDoorGh
namespace Go.Proofs.YtjohpdobnedilaaGreatDoor
open Go Go.RowKit

theorem four_le (p q : Nat) : 4 * (p * q) ≤ (p + q) * (p + q) := by
  have h := sq_nonneg ((p : Int) - q)
  rw [sq_sub] at h
  have e : ((p + q : Nat) : Int) * ((p + q : Nat) : Int) = (p : Int) * p + 2 * ((p : Int) * q) + (q : Int) * q := by
    rw [Int.natCast_add]; exact sq_add _ _
  have e2 : ((4 * (p * q) : Nat) : Int) = 4 * ((p : Int) * q) := by simp
  have : ((4 * (p * q) : Nat) : Int) ≤ (((p + q) * (p + q) : Nat) : Int) := by
    rw [Int.natCast_mul (p + q), e, e2]; omega
  exact Int.ofNat_le.1 this

/-- a step from above stays above -/
theorem newt_above {a x : Nat} (hx : 0 < x) (ha : 0 < a) : 0 < (x + a / x) / 2 ∧ a < ((x + a / x) / 2 + 1) * ((x + a / x) / 2 + 1) := by
  have h1 := Nat.div_add_mod a x
  have h2 := Nat.mod_lt a hx
  have hlt : a < x * (a / x + 1) := by rw [Nat.mul_add, Nat.mul_one]; omega
  generalize hq : a / x = q at *
  generalize hy : (x + q) / 2 = y at *
  have hy2 : x + (q + 1) ≤ 2 * (y + 1) := by omega
  have h3 := four_le x (q + 1)
  have h4 : (x + (q + 1)) * (x + (q + 1)) ≤ (2 * (y + 1)) * (2 * (y + 1)) := Nat.mul_le_mul hy2 hy2
  have h5 : (2 * (y + 1)) * (2 * (y + 1)) = 4 * ((y + 1) * (y + 1)) := by
    rw [Nat.mul_mul_mul_comm]
  have h6 : a < (y + 1) * (y + 1) := by omega
  refine ⟨?_, h6⟩
  rcases Nat.eq_zero_or_pos y with h | h
  · rw [h] at h6; omega
  · exact h
theorem newt_stop {a x : Nat} (hx : 0 < x) (h : x ≤ (x + a / x) / 2) : x * x ≤ a := by
  have h1 : x ≤ a / x := by omega
  exact (Nat.le_div_iff_mul_le hx).1 h1
theorem newt_start {a : Nat} (ha : a ≠ 0) : a < (2 ^ ((blen a + 1) / 2) + 1) * (2 ^ ((blen a + 1) / 2) + 1) := by
  obtain ⟨l, h1, _, h2⟩ := blen_spec ha
  rw [h1]
  have h3 : 2 ^ (l + 1) ≤ 2 ^ ((l + 1 + 1) / 2) * 2 ^ ((l + 1 + 1) / 2) := by
    rw [← Nat.pow_add]; exact Nat.pow_le_pow_right (by omega) (by omega)
  have h4 : 2 ^ ((l + 1 + 1) / 2) * 2 ^ ((l + 1 + 1) / 2) ≤ (2 ^ ((l + 1 + 1) / 2) + 1) * (2 ^ ((l + 1 + 1) / 2) + 1) := Nat.mul_le_mul (Nat.le_succ _) (Nat.le_succ _)
  omega

/-- the number in a box of a world, zero where there is none -/
def IsNum (w : World) (g x : Nat) : Prop := ∃ nb ao n ca, Box w g nb ao n ca ∧ Bn w nb ao n ca (x : Int)
theorem IsNum.unique {w : World} {g x y : Nat} (h : IsNum w g x) (k : IsNum w g y) : x = y := by
  obtain ⟨nb, ao, n, ca, b1, n1⟩ := h
  obtain ⟨mb, bo, m, cb, b2, n2⟩ := k
  unfold Box at b1 b2
  rw [b1] at b2
  injection b2 with b2
  injection b2 with b2
  have e1 : Value.slice ao n ca = .slice bo m cb := by
    have := congrArg (fun (a : Array Value) => a[1]?) b2
    simpa using this
  injection e1 with e1 e2 e3
  subst e1 e2 e3
  have s1 := n1.sl
  have s2 := n2.sl
  rw [Int.natAbs_natCast] at s1 s2
  have hl : limbs x = limbs y := by
    refine List.ext_getElem (by rw [s1.len, s2.len]) fun j h1 h2 => ?_
    have hn : 0 < n := by rw [s1.len] at h1; omega
    obtain ⟨b, o, e, c1⟩ := s1.cells (by rw [s1.len]; exact hn)
    obtain ⟨b', o', e', c2⟩ := s2.cells (by rw [s2.len]; exact hn)
    rw [e] at e'
    cases e'
    have g1 := c1 j h1
    have g2 := c2 j h2
    rw [g1] at g2
    injection g2 with g2
    injection g2 with _ g2
    simpa [List.getD, h1, h2] using g2
  exact limbs_inj hl
noncomputable def numAt (w : World) (g : Nat) : Nat := by
  classical
  exact if h : ∃ x, IsNum w g x then h.choose else 0
theorem numAt_is {w : World} {g x : Nat} (h : IsNum w g x) : numAt w g = x := by
  have hx : ∃ x, IsNum w g x := ⟨x, h⟩
  unfold numAt
  rw [dif_pos hx]
  exact hx.choose_spec.unique h
end Go.Proofs.YtjohpdobnedilaaGreatDoor
