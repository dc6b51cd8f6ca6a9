/- What dyad.Mul does. -/
import Derived.Test.YtjohpdobnedilaaDoorGk
namespace Go.Proofs.YtjohpdobnedilaaDoor
open Go.RowKit

theorem dmul_eq (p q : Int × Int) : dmul (some p) (some q) = dmk (p.1 * q.1) (p.2 + q.2) := rfl

end Go.Proofs.YtjohpdobnedilaaDoor

/- What dyad.Cmp does. -/
namespace Go.Proofs.YtjohpdobnedilaaDoor
open Go.RowKit

theorem sgn3_scale {x : Int} {k : Nat} : sgn3 (x * 2 ^ k) 0 = sgn3 x 0 := by
  have hp := two_pos k
  unfold sgn3
  rcases Int.lt_trichotomy x 0 with h | h | h
  · rw [if_pos (Int.mul_neg_of_neg_of_pos h hp), if_pos h]
  · subst h; simp
  · rw [if_neg (by have := Int.mul_pos h hp; omega), if_pos (Int.mul_pos h hp), if_neg (by omega), if_pos h]

theorem sgn3_common {x y : Int} {k : Nat} : sgn3 (x * 2 ^ k) (y * 2 ^ k) = sgn3 x y := by
  have hp := two_pos k
  unfold sgn3
  rcases Int.lt_trichotomy x y with h | h | h
  · rw [if_pos (Int.mul_lt_mul_of_pos_right h hp), if_pos h]
  · subst h; simp
  · have := Int.mul_lt_mul_of_pos_right h hp
    rw [if_neg (by omega), if_pos this, if_neg (by omega), if_pos h]

theorem sc_sign (m e : Int) : sgn3 (sc (some (m, e))) 0 = sgn3 m 0 := sgn3_scale

theorem sgn3_cases (x y : Int) : sgn3 x y = -1 ∧ x < y ∨ sgn3 x y = 0 ∧ x = y ∨ sgn3 x y = 1 ∧ y < x := by
  unfold sgn3
  rcases Int.lt_trichotomy x y with h | h | h
  · left; rw [if_pos h]; exact ⟨rfl, h⟩
  · right; left; subst h; simp
  · right; right; rw [if_neg (by omega), if_pos h]; exact ⟨rfl, h⟩

theorem cmp_signs {x y : Int} (h : sgn3 x 0 ≠ sgn3 y 0) : sgn3 (sgn3 x 0) (sgn3 y 0) = sgn3 x y := by
  rcases sgn3_cases x 0 with ⟨a, b⟩ | ⟨a, b⟩ | ⟨a, b⟩ <;> rcases sgn3_cases y 0 with ⟨c, d⟩ | ⟨c, d⟩ | ⟨c, d⟩ <;> rw [a, c] at h ⊢ <;> first | exact absurd rfl h | (unfold sgn3; simp; omega)

/-- the size of a dyad -/
theorem sc_size {m e : Int} (h : Nd (some (m, e))) (h0 : m ≠ 0) : ∃ l : Nat, (l : Int) = e + 65536 + blen m.natAbs - 1 ∧ 2 ^ l ≤ (sc (some (m, e))).natAbs ∧ (sc (some (m, e))).natAbs < 2 ^ (l + 1) := by
  have he : -65536 ≤ e := by
    rcases h with ⟨h1, _⟩ | ⟨_, h2, _⟩
    · exact absurd h1 h0
    · exact h2
  obtain ⟨k, h1, h2, h3⟩ := blen_spec (show m.natAbs ≠ 0 by omega)
  refine ⟨k + (e + 65536).toNat, by rw [h1]; omega, ?_, ?_⟩
  · rw [sc_some, natAbs_shift, Nat.pow_add]; exact Nat.mul_le_mul_right _ h2
  · rw [sc_some, natAbs_shift, show k + (e + 65536).toNat + 1 = k + 1 + (e + 65536).toNat by omega, Nat.pow_add]
    exact Nat.mul_lt_mul_of_pos_right h3 (Nat.pos_of_ne_zero (by simp))

theorem cmp_tops {m e m' e' : Int} (h : Nd (some (m, e))) (h' : Nd (some (m', e'))) (hs : sgn3 m 0 = sgn3 m' 0) (ht : e + (blen m.natAbs : Int) ≠ e' + blen m'.natAbs) :
    sgn3 m 0 * sgn3 (e + (blen m.natAbs : Int)) (e' + blen m'.natAbs) = sgn3 (sc (some (m, e))) (sc (some (m', e'))) := by
  have s1 := sc_sign m e
  have s2 := sc_sign m' e'
  have hm : m ≠ 0 := by
    rintro rfl
    have : m' = 0 := by
      have h1 : sgn3 m' 0 = 0 := by rw [← hs]; simp [sgn3]
      exact sgn3_zero h1
    subst this
    have a : e = 0 := by rcases h with ⟨_, h⟩ | ⟨h, _⟩ <;> simp_all
    have b : e' = 0 := by rcases h' with ⟨_, h⟩ | ⟨h, _⟩ <;> simp_all
    exact ht (by rw [a, b])
  have hm' : m' ≠ 0 := by
    rintro rfl
    have h1 : sgn3 m 0 = 0 := by rw [hs]; simp [sgn3]
    exact hm (sgn3_zero h1)
  obtain ⟨l, l1, l2, l3⟩ := sc_size h hm
  obtain ⟨k, k1, k2, k3⟩ := sc_size h' hm'
  generalize sc (some (m, e)) = X at *
  generalize sc (some (m', e')) = Y at *
  have key : ∀ {A B a b : Nat}, 2 ^ a ≤ A → A < 2 ^ (a + 1) → 2 ^ b ≤ B → a < b → A < B := by
    intro A B a b _ h2 h3 h4
    have : 2 ^ (a + 1) ≤ 2 ^ b := Nat.pow_le_pow_right (by omega) h4
    omega
  rcases sgn3_cases (e + (blen m.natAbs : Int)) (e' + blen m'.natAbs) with ⟨t1, t2⟩ | ⟨t1, t2⟩ | ⟨t1, t2⟩
  · have hlt := key l2 l3 k2 (show l < k by omega)
    rcases sgn3_cases m 0 with ⟨a, b⟩ | ⟨a, b⟩ | ⟨a, b⟩
    · rw [hs] at s1; rw [a] at hs; rw [t1, a]
      rw [← hs] at s1 s2
      have c1 : X < 0 := by rcases sgn3_cases X 0 with ⟨c, d⟩ | ⟨c, d⟩ | ⟨c, d⟩ <;> omega
      have c2 : Y < 0 := by rcases sgn3_cases Y 0 with ⟨c, d⟩ | ⟨c, d⟩ | ⟨c, d⟩ <;> omega
      unfold sgn3; rw [if_neg (by omega), if_pos (by omega)]; rfl
    · exact absurd b hm
    · rw [hs] at s1; rw [a] at hs; rw [t1, a]
      rw [← hs] at s1 s2
      have c1 : 0 < X := by rcases sgn3_cases X 0 with ⟨c, d⟩ | ⟨c, d⟩ | ⟨c, d⟩ <;> omega
      have c2 : 0 < Y := by rcases sgn3_cases Y 0 with ⟨c, d⟩ | ⟨c, d⟩ | ⟨c, d⟩ <;> omega
      unfold sgn3; rw [if_pos (by omega)]; rfl
  · exact absurd t2 ht
  · have hlt := key k2 k3 l2 (show k < l by omega)
    rcases sgn3_cases m 0 with ⟨a, b⟩ | ⟨a, b⟩ | ⟨a, b⟩
    · rw [hs] at s1; rw [a] at hs; rw [t1, a]
      rw [← hs] at s1 s2
      have c1 : X < 0 := by rcases sgn3_cases X 0 with ⟨c, d⟩ | ⟨c, d⟩ | ⟨c, d⟩ <;> omega
      have c2 : Y < 0 := by rcases sgn3_cases Y 0 with ⟨c, d⟩ | ⟨c, d⟩ | ⟨c, d⟩ <;> omega
      unfold sgn3; rw [if_pos (by omega)]; rfl
    · exact absurd b hm
    · rw [hs] at s1; rw [a] at hs; rw [t1, a]
      rw [← hs] at s1 s2
      have c1 : 0 < X := by rcases sgn3_cases X 0 with ⟨c, d⟩ | ⟨c, d⟩ | ⟨c, d⟩ <;> omega
      have c2 : 0 < Y := by rcases sgn3_cases Y 0 with ⟨c, d⟩ | ⟨c, d⟩ | ⟨c, d⟩ <;> omega
      unfold sgn3; rw [if_neg (by omega), if_pos (by omega)]; rfl

/-- the two results of a comparison -/
def CmpOut (d d' : Dy) (e : Ending) : Prop :=
  (d = none ∨ d' = none) ∧ e = .returned (.tuple #[.int .i64 0, .bool false]) ∨ d ≠ none ∧ d' ≠ none ∧ e = .returned (.tuple #[.int .i64 (sgn3 (sc d) (sc d')), .bool true])

end Go.Proofs.YtjohpdobnedilaaDoor

/- What dyad.Scale, Floor and Log2 do. -/
namespace Go.Proofs.YtjohpdobnedilaaDoor
open Go.RowKit

/-- d times 2 to the power n; a shift by 131072 leads out of the range -/
def dscale (d : Dy) (n : Int) : Dy := match d with
  | none => none
  | some (m, e) => dmk m (e + max (-131072) (min n 131072))

/-- what Floor returns -/
theorem floor_pos {m e : Int} {k : Nat} (he : e = (k : Int)) : sc (some (m, e)) / 2 ^ 65536 = m * 2 ^ k := by
  rw [sc_some, show (e + 65536).toNat = k + 65536 by omega, Int.pow_add, ← Int.mul_assoc, Int.mul_ediv_cancel _ (Int.ne_of_gt (two_pos 65536))]
theorem floor_neg {m e : Int} {k : Nat} (he : e = -(k : Int)) (h : k ≤ 65536) : sc (some (m, e)) / 2 ^ 65536 = m / 2 ^ k := by
  obtain ⟨j, hj⟩ : ∃ j, 65536 = k + j := ⟨65536 - k, by omega⟩
  rw [sc_some, show (e + 65536).toNat = j by omega, show (2 : Int) ^ 65536 = 2 ^ k * 2 ^ j by rw [← Int.pow_add, ← hj], Int.mul_ediv_mul_of_pos_left _ _ (two_pos j)]

theorem boxes_db (w : World) (bb nb : Bool) (ao : Option Addr) (n cap : Nat) (e : Int) :
    ∃ W, W = (w.alloc (.cells #[.bool bb, .bool nb, .slice ao n cap, .int .i64 e] 43)).alloc (.cells #[.bool false, .slice none 0 0] 41) ∧ Below w.heap.size w W ∧ DBox W w.heap.size bb nb ao n cap e ∧ Box W (w.heap.size + 1) false none 0 0 ∧ w.heap.size + 2 ≤ W.heap.size := by
  refine ⟨_, rfl, ((Below.refl _ w).alloc (Nat.le_refl _) _).alloc (by simp) _, ?_, ?_, by simp⟩
  · exact (DBox.new w bb nb ao n cap e).below ((Below.refl _ _).alloc (Nat.le_refl _) _)
  · have := Box.new (w.alloc (.cells #[.bool bb, .bool nb, .slice ao n cap, .int .i64 e] 43)) false none 0 0
    simpa using this

/-- the floor of a dyad -/
def dfloor (d : Dy) : Int := sc d / 2 ^ 65536
theorem dfloor_none : dfloor none = 0 := Int.zero_ediv _
theorem dfloor_some (m e : Int) : dfloor (some (m, e)) = sc (some (m, e)) / 2 ^ 65536 := rfl

/-- the results of Log2 -/
def LogOut (d : Dy) (e : Ending) : Prop :=
  dm d = 0 ∧ e = .returned (.tuple #[.int .i64 0, .bool false]) ∨ dm d ≠ 0 ∧ e = .returned (.tuple #[.int .i64 (dtop d - 1), .bool true])

end Go.Proofs.YtjohpdobnedilaaDoor
