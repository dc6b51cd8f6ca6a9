import Derived.Test.YtekocoklfnojmaaDoorIUndoU31
import Derived.Test.YtekocoklfnojmaaDoorIUndoU24
import Derived.Deep.CutBlock
import Derived.Test.YtekocoklfnojmaaDoorIUndoU29
import Derived.Test.YtekocoklfnojmaaDoorIUndoU36
namespace Go.Proofs.YtekocoklfnojmaaDoor

/-- how many bits the integer of a slim dyad has at most -/
def SB : Nat := 640 + 4000
section
variable {a b c : Dy}
end

end Go.Proofs.YtekocoklfnojmaaDoor

namespace Go.Proofs.YtekocoklfnojmaaDoor

/-- what the four roundings of a dyad with more bits are -/
structure NearBig (d lo hi near inn : Dy) (c : Int) : Prop where
  lo_ne : lo ≠ none
  hi_ne : hi ≠ none
  near_ne : near ≠ none
  lohi : lo ≠ hi
  a : sgn3 (sc lo) (sc d) = -1
  b : sgn3 (sc d) (sc hi) = -1
  below : dsub d lo ≠ none
  above : dsub hi d ≠ none
  cmp : sgn3 (sc (dsub d lo)) (sc (dsub hi d)) = c
  choice : c = -1 ∧ near = lo ∨ c = 1 ∧ near = hi ∨ c = 0 ∧ (near = lo ∨ near = hi)
  inward : dm d < 0 ∧ inn = hi ∨ 0 ≤ dm d ∧ inn = lo

end Go.Proofs.YtekocoklfnojmaaDoor

namespace Go.Proofs.YtekocoklfnojmaaDoor

/-- what the statement compares -/
structure QuoIs (a b lo hi : Dy) (p x y : Int) : Prop where
  lon : lo ≠ none
  hin : hi ≠ none
  lob : (blen (dm lo).natAbs : Int) ≤ p
  hib : (blen (dm hi).natAbs : Int) ≤ p
  lom : dmul lo b ≠ none
  him : dmul hi b ≠ none
  cx : sgn3 (sc (dmul lo b)) (sc a) = x
  cy : sgn3 (sc a) (sc (dmul hi b)) = y
  xle : ¬ 0 < x
  yle : ¬ 0 < y
  same : lo = hi ↔ x = 0
  both : x = 0 ↔ y = 0

end Go.Proofs.YtekocoklfnojmaaDoor

namespace Go.Proofs.YtekocoklfnojmaaDoor

theorem isq_ex (N : Nat) : ∃ s, s * s ≤ N ∧ N < (s + 1) * (s + 1) := by
  induction N with
  | zero => exact ⟨0, by omega, by omega⟩
  | succ n ih =>
    obtain ⟨s, h1, h2⟩ := ih
    by_cases h : n + 1 < (s + 1) * (s + 1)
    · exact ⟨s, by omega, h⟩
    · refine ⟨s + 1, by omega, ?_⟩
      have e : (s + 1 + 1) * (s + 1 + 1) = (s + 1) * (s + 1) + 2 * (s + 1) + 1 := by rw [Nat.add_mul (s + 1) 1, Nat.mul_add (s + 1) (s + 1) 1]; omega
      omega
/-- the root without its fraction -/
noncomputable def isq (N : Nat) : Nat := (isq_ex N).choose
theorem isq_spec (N : Nat) : isq N * isq N ≤ N ∧ N < (isq N + 1) * (isq N + 1) := (isq_ex N).choose_spec
theorem isq_le {N a : Nat} : a ≤ isq N ↔ a * a ≤ N := by
  obtain ⟨h1, h2⟩ := isq_spec N
  constructor
  · intro h; exact Nat.le_trans (Nat.mul_le_mul h h) h1
  · intro h
    rcases Nat.lt_or_ge (isq N) a with h3 | h3
    · have := Nat.mul_le_mul (show isq N + 1 ≤ a from h3) (show isq N + 1 ≤ a from h3)
      omega
    · exact h3
theorem isq_of {N s : Nat} (h1 : s * s ≤ N) (h2 : N < (s + 1) * (s + 1)) : s = isq N := by
  have a := isq_le.2 h1
  rcases Nat.lt_or_ge s (isq N) with h | h
  · have := isq_le.1 (show s + 1 ≤ isq N from h)
    omega
  · omega
theorem isq_sq (a : Nat) : isq (a * a) = a := by
  refine (isq_of (Nat.le_refl _) ?_).symm
  have e : (a + 1) * (a + 1) = a * a + 2 * a + 1 := by rw [Nat.add_mul a 1, Nat.mul_add a a 1]; omega
  omega

/-- what the statement compares -/
structure RootIs (a lo hi : Dy) (x y : Int) : Prop where
  lon : lo ≠ none
  hin : hi ≠ none
  lob : blen (dm lo).natAbs ≤ 80
  hib : blen (dm hi).natAbs ≤ 80
  lom : dmul lo lo ≠ none
  him : dmul hi hi ≠ none
  cx : sgn3 (sc (dmul lo lo)) (sc a) = x
  cy : sgn3 (sc a) (sc (dmul hi hi)) = y
  xle : ¬ 0 < x
  yle : ¬ 0 < y
  same : lo = hi ↔ x = 0

end Go.Proofs.YtekocoklfnojmaaDoor

namespace Go.Proofs.YtekocoklfnojmaaDoor

theorem quo_more {A C k j : Nat} (hC : C ≠ 0) :
    A * 2 ^ (k + j) / C / 2 ^ j = A * 2 ^ k / C ∧ (decide (A * 2 ^ (k + j) % C ≠ 0) || decide (A * 2 ^ (k + j) / C % 2 ^ j ≠ 0)) = decide (A * 2 ^ k % C ≠ 0) := by
  have hJ : 0 < 2 ^ j := Nat.pow_pos (by omega)
  rw [Nat.pow_add, ← Nat.mul_assoc]
  generalize A * 2 ^ k = X
  generalize 2 ^ j = J at *
  have h1 : X * J / C / J = X / C := by rw [Nat.div_div_eq_div_mul, Nat.mul_div_mul_right _ _ hJ]
  refine ⟨h1, ?_⟩
  have d1 := Nat.div_add_mod (X * J) C
  have d2 := Nat.div_add_mod (X * J / C) J
  have d3 := Nat.div_add_mod X C
  rw [h1] at d2
  generalize X * J / C % J = s at *
  generalize X * J % C = r' at *
  generalize X % C = r at *
  generalize X / C = Q at *
  rw [← d2, ← d3] at d1
  have e : C * s + r' = r * J := by
    have e1 : C * (J * Q + s) + r' = C * (J * Q) + (C * s + r') := by rw [Nat.mul_add]; omega
    have e2 : (C * Q + r) * J = C * (J * Q) + r * J := by rw [Nat.add_mul, Nat.mul_assoc, Nat.mul_comm Q J]
    omega
  rw [← Bool.decide_or]
  apply decide_eq_decide.2
  constructor
  · intro h h2
    subst h2
    rw [Nat.zero_mul] at e
    rcases h with h | h
    · omega
    · have := Nat.mul_pos (Nat.pos_of_ne_zero hC) (Nat.pos_of_ne_zero h); omega
  · intro h
    by_cases h2 : r' = 0
    · right
      intro h3
      rw [h2, h3, Nat.mul_zero] at e
      have := Nat.mul_pos (Nat.pos_of_ne_zero h) hJ
      omega
    · exact Or.inl h2
theorem fla_quo {neg : Bool} {A C k j : Nat} {E mode : Int} (hC : C ≠ 0) (h : 2 ^ 53 ≤ A * 2 ^ k / C) :
    fla neg (A * 2 ^ (k + j) / C) E (decide (A * 2 ^ (k + j) % C ≠ 0)) mode = fla neg (A * 2 ^ k / C) (E + j) (decide (A * 2 ^ k % C ≠ 0)) mode := by
  obtain ⟨h1, h2⟩ := quo_more (A := A) (k := k) (j := j) hC
  have h3 := fla_tail neg (N := A * 2 ^ (k + j) / C) E (decide (A * 2 ^ (k + j) % C ≠ 0)) mode j (by rw [h1]; exact h)
  rw [h1, h2] at h3
  exact h3.symm
/-- of two lengths that suffice both give the same -/
theorem fla_quo_any {neg : Bool} {A C k k' : Nat} {E mode : Int} (hC : C ≠ 0) (h : 2 ^ 53 ≤ A * 2 ^ k / C) (h' : 2 ^ 53 ≤ A * 2 ^ k' / C) :
    fla neg (A * 2 ^ k / C) (E - k) (decide (A * 2 ^ k % C ≠ 0)) mode = fla neg (A * 2 ^ k' / C) (E - k') (decide (A * 2 ^ k' % C ≠ 0)) mode := by
  rcases Nat.le_total k k' with h1 | h1
  · obtain ⟨j, rfl⟩ : ∃ j, k' = k + j := ⟨k' - k, by omega⟩
    rw [fla_quo (j := j) hC h]
    congr 1
    omega
  · obtain ⟨j, rfl⟩ : ∃ j, k = k' + j := ⟨k - k', by omega⟩
    rw [fla_quo (j := j) hC h']
    congr 1
    omega
/-- powers of two in both parts fall out -/
theorem quo_twos {A C i l k : Nat} (h : l ≤ k + i) : A * 2 ^ i * 2 ^ k / (C * 2 ^ l) = A * 2 ^ (k + i - l) / C ∧ (decide (A * 2 ^ i * 2 ^ k % (C * 2 ^ l) ≠ 0)) = decide (A * 2 ^ (k + i - l) % C ≠ 0) := by
  have hL : 0 < 2 ^ l := Nat.pow_pos (by omega)
  have e : A * 2 ^ i * 2 ^ k = A * 2 ^ (k + i - l) * 2 ^ l := by rw [Nat.mul_assoc, Nat.mul_assoc, ← Nat.pow_add, ← Nat.pow_add]; congr 2; omega
  rw [e, Nat.mul_div_mul_right _ _ hL, Nat.mul_mod_mul_right]
  refine ⟨rfl, ?_⟩
  apply decide_eq_decide.2
  constructor
  · intro h1 h2; exact h1 (by rw [h2, Nat.zero_mul])
  · intro h1 h2
    rcases Nat.mul_eq_zero.1 h2 with h3 | h3
    · exact h1 h3
    · omega

theorem root_more {M j : Nat} : isq (M * (2 ^ j * 2 ^ j)) / 2 ^ j = isq M ∧ (decide (isq (M * (2 ^ j * 2 ^ j)) * isq (M * (2 ^ j * 2 ^ j)) ≠ M * (2 ^ j * 2 ^ j)) || decide (isq (M * (2 ^ j * 2 ^ j)) % 2 ^ j ≠ 0)) = decide (isq M * isq M ≠ M) := by
  have hJ : 0 < 2 ^ j := Nat.pow_pos (by omega)
  generalize 2 ^ j = J at *
  have hsq : ∀ c : Nat, c * c * (J * J) = (c * J) * (c * J) := fun c => by rw [Nat.mul_mul_mul_comm]
  have hJJ : 0 < J * J := Nat.mul_pos hJ hJ
  have hL : ∀ c : Nat, c ≤ isq (M * (J * J)) / J ↔ c ≤ isq M := by
    intro c
    rw [Nat.le_div_iff_mul_le hJ, isq_le, isq_le, ← hsq]
    exact ⟨fun h => Nat.le_of_mul_le_mul_right h hJJ, fun h => Nat.mul_le_mul_right _ h⟩
  have hR : isq (M * (J * J)) / J = isq M := Nat.le_antisymm ((hL _).1 (Nat.le_refl _)) ((hL _).2 (Nat.le_refl _))
  refine ⟨hR, ?_⟩
  rw [← Bool.decide_or]
  apply decide_eq_decide.2
  constructor
  · intro h h2
    have h3 : M * (J * J) = (isq M * J) * (isq M * J) := by rw [← hsq, h2]
    have h4 : isq (M * (J * J)) = isq M * J := by rw [h3, isq_sq]
    rcases h with h | h
    · apply h; rw [h4, h3]
    · apply h; rw [h4]; exact Nat.mul_mod_left _ _
  · intro h
    by_cases h2 : isq (M * (J * J)) % J = 0
    · left
      intro h3
      have hd := Nat.div_add_mod (isq (M * (J * J))) J
      rw [h2, hR, Nat.add_zero, Nat.mul_comm] at hd
      rw [← hd, ← hsq] at h3
      exact h (Nat.eq_of_mul_eq_mul_right hJJ h3)
    · exact Or.inr h2
theorem fla_root {neg : Bool} {M j : Nat} {E mode : Int} (h : 2 ^ 53 ≤ isq M) :
    fla neg (isq (M * (2 ^ j * 2 ^ j))) E (decide (isq (M * (2 ^ j * 2 ^ j)) * isq (M * (2 ^ j * 2 ^ j)) ≠ M * (2 ^ j * 2 ^ j))) mode = fla neg (isq M) (E + j) (decide (isq M * isq M ≠ M)) mode := by
  obtain ⟨h1, h2⟩ := root_more (M := M) (j := j)
  have h3 := fla_tail neg (N := isq (M * (2 ^ j * 2 ^ j))) E (decide (isq (M * (2 ^ j * 2 ^ j)) * isq (M * (2 ^ j * 2 ^ j)) ≠ M * (2 ^ j * 2 ^ j))) mode j (by rw [h1]; exact h)
  rw [h1, h2] at h3
  exact h3.symm
theorem quoX_ge {N : Nat} (h : N ≠ 0) (hN : N < 2 ^ 127) : 2 ^ 127 ≤ quoX N := by
  have l0 := Nat.log2_self_le h
  have l1 : Nat.log2 N < 127 := (Nat.log2_lt h).2 hN
  unfold quoX
  have e : (2 : Nat) ^ 127 = 2 ^ Nat.log2 N * 2 ^ (127 - Nat.log2 N) := by rw [← Nat.pow_add]; congr 1; omega
  rw [e]
  exact Nat.mul_le_mul_right _ l0
theorem quoY_lt {D : Nat} (h : D ≠ 0) (hD : D < 2 ^ 63) : quoY D < 2 ^ 64 := by
  have l1 := @Nat.lt_log2_self D
  have l2 : Nat.log2 D < 63 := (Nat.log2_lt h).2 hD
  unfold quoY
  have e : (2 : Nat) ^ 64 = 2 ^ (Nat.log2 D + 1) * 2 ^ (63 - Nat.log2 D) := by rw [← Nat.pow_add]; congr 1; omega
  rw [e]
  exact Nat.mul_lt_mul_of_pos_right l1 (Nat.pow_pos (by omega))
/-- the program's quotient of two floats is the reference's longer one -/
theorem div_long {neg : Bool} {mode : Int} {N D A C i l k : Nat} {ex ey : Int} (hN : N = A * 2 ^ i) (hD : D = C * 2 ^ l) (hA : A ≠ 0) (hC : C ≠ 0) (hN1 : N < 2 ^ 53) (hD1 : D < 2 ^ 53) (hk : 2 ^ 53 ≤ A * 2 ^ k / C) :
    fla neg (quoX N / quoY D) (quoE N D ex ey) (decide (quoX N % quoY D ≠ 0)) mode = fla neg (A * 2 ^ k / C) (ex + i - (ey + l) - k) (decide (A * 2 ^ k % C ≠ 0)) mode := by
  have hp : ∀ n : Nat, 0 < 2 ^ n := fun n => Nat.pow_pos (by omega)
  have hN0 : N ≠ 0 := by rw [hN]; have := Nat.mul_pos (Nat.pos_of_ne_zero hA) (hp i); omega
  have hD0 : D ≠ 0 := by rw [hD]; have := Nat.mul_pos (Nat.pos_of_ne_zero hC) (hp l); omega
  have p53 : (2 : Nat) ^ 53 < 2 ^ 63 := Nat.pow_lt_pow_right (by omega) (by omega)
  have p127 : (2 : Nat) ^ 53 < 2 ^ 127 := Nat.pow_lt_pow_right (by omega) (by omega)
  have hx := quoX_ge hN0 (Nat.lt_trans hN1 p127)
  have hy := quoY_lt hD0 (Nat.lt_trans hD1 p53)
  have hy0 : 0 < quoY D := by unfold quoY; exact Nat.mul_pos (Nat.pos_of_ne_zero hD0) (hp _)
  have lN : Nat.log2 N < 53 := (Nat.log2_lt hN0).2 hN1
  have lD : Nat.log2 D < 53 := (Nat.log2_lt hD0).2 hD1
  have hl : l ≤ 53 := by
    rcases Nat.lt_or_ge 53 l with h | h
    · have h1 : 2 ^ 53 ≤ 2 ^ l := Nat.pow_le_pow_right (by omega) (by omega)
      have h2 : 2 ^ l ≤ C * 2 ^ l := Nat.le_mul_of_pos_left _ (Nat.pos_of_ne_zero hC)
      omega
    · exact h
  have hge : 2 ^ 53 ≤ quoX N / quoY D := by
    rw [Nat.le_div_iff_mul_le hy0]
    have h1 : 2 ^ 53 * quoY D ≤ 2 ^ 53 * 2 ^ 64 := Nat.mul_le_mul_left _ (Nat.le_of_lt hy)
    have h2 : (2 : Nat) ^ 53 * 2 ^ 64 ≤ 2 ^ 127 := by rw [← Nat.pow_add]; exact Nat.pow_le_pow_right (by omega) (by omega)
    omega
  have hly : l + (63 - Nat.log2 D) ≤ 64 := by
    have h1 : 2 ^ l ≤ D := by rw [hD]; exact Nat.le_mul_of_pos_left _ (Nat.pos_of_ne_zero hC)
    have h2 : l ≤ Nat.log2 D := (Nat.le_log2 hD0).2 h1
    omega
  have hE : quoE N D ex ey = ex + i - (ey + l) - ((127 - Nat.log2 N + i - (l + (63 - Nat.log2 D)) : Nat) : Int) := by
    unfold quoE; omega
  have hq : quoX N = A * 2 ^ i * 2 ^ (127 - Nat.log2 N) := by unfold quoX; rw [hN]
  have hd : quoY D = C * 2 ^ (l + (63 - Nat.log2 D)) := by unfold quoY; rw [Nat.pow_add, ← Nat.mul_assoc, ← hD]
  obtain ⟨q1, q2⟩ := quo_twos (A := A) (C := C) (i := i) (l := l + (63 - Nat.log2 D)) (k := 127 - Nat.log2 N) (by omega)
  rw [← hq, ← hd] at q1 q2
  rw [hE, q2, q1]
  rw [q1] at hge
  exact fla_quo_any hC hge hk
/-- the program's root of a float is the reference's longer one -/
theorem root_long {neg : Bool} {mode : Int} {N A i s k : Nat} {E e : Int} (hN : N = A * 2 ^ i) (hexp : 2 * E + s = e) (hev : (e + i - (k : Int)) % 2 = 0) (h1 : 2 ^ 53 ≤ isq (N * 2 ^ s)) (h2 : 2 ^ 53 ≤ isq (A * 2 ^ k)) :
    fla neg (isq (N * 2 ^ s)) E (decide (isq (N * 2 ^ s) * isq (N * 2 ^ s) ≠ N * 2 ^ s)) mode = fla neg (isq (A * 2 ^ k)) ((e + i - (k : Int)) / 2) (decide (isq (A * 2 ^ k) * isq (A * 2 ^ k) ≠ A * 2 ^ k)) mode := by
  have e1 : N * 2 ^ s = A * 2 ^ (i + s) := by rw [hN, Nat.mul_assoc, ← Nat.pow_add]
  rw [e1] at h1 ⊢
  rcases Nat.le_total k (i + s) with h | h
  · obtain ⟨j, hj⟩ : ∃ j, i + s = k + (j + j) := ⟨(i + s - k) / 2, by omega⟩
    have e2 : A * 2 ^ (i + s) = A * 2 ^ k * (2 ^ j * 2 ^ j) := by rw [hj, Nat.pow_add, ← Nat.mul_assoc, Nat.pow_add 2 j j]
    rw [e2, fla_root h2]
    congr 1
    omega
  · obtain ⟨j, hj⟩ : ∃ j, k = i + s + (j + j) := ⟨(k - (i + s)) / 2, by omega⟩
    have e2 : A * 2 ^ k = A * 2 ^ (i + s) * (2 ^ j * 2 ^ j) := by rw [hj, Nat.pow_add, ← Nat.mul_assoc, Nat.pow_add 2 j j]
    rw [e2, fla_root h1]
    congr 1
    omega
end Go.Proofs.YtekocoklfnojmaaDoor
