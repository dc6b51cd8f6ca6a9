/- What the reference's Sum keeps, as plain facts. -/
import Derived.Test.YtilmighjcjgccaaDoorHg
import Derived.Test.YtilmighjcjgccaaDoorGj
import Derived.Test.YtilmighjcjgccaaDoorGk
import Derived.Test.YtilmighjcjgccaaDoorGl
namespace Go.Proofs.YtilmighjcjgccaaDoor

structure SI (D : List Dy) (j : Nat) (M E : Int) : Prop where
  lo : -65536 ≤ E
  hi : E ≤ 65536
  eq : M * 2 ^ (E + 65536).toNat = scs (D.take j)

theorem scs_next {D : List Dy} {j : Nat} (hj : j < D.length) : scs (D.take (j + 1)) = scs (D.take j) + sc (D.getD j none) := by
  rw [List.take_succ_eq_append_getElem hj, scs_append]
  simp [List.getD, hj, scs]
theorem si_zero (D : List Dy) : SI D 0 0 0 := ⟨by omega, by omega, by rw [Int.zero_mul, List.take_zero]; rfl⟩
theorem si_skip {D : List Dy} {j : Nat} {M E e : Int} (h : SI D j M E) (hj : j < D.length) (hd : D.getD j none = some (0, e)) : SI D (j + 1) M E :=
  ⟨h.lo, h.hi, by rw [scs_next hj, hd, sc_some, h.eq]; omega⟩
theorem si_first {D : List Dy} {j : Nat} {m E e : Int} (h : SI D j 0 E) (hj : j < D.length) (hd : D.getD j none = some (m, e)) (h0 : -65536 ≤ e) (h1 : e ≤ 65536) : SI D (j + 1) m e :=
  ⟨h0, h1, by
    have := h.eq
    rw [Int.zero_mul] at this
    rw [scs_next hj, hd, sc_some, ← this]; omega⟩
theorem si_up {D : List Dy} {j : Nat} {m M E e : Int} {s : Nat} (h : SI D j M E) (hj : j < D.length) (hd : D.getD j none = some (m, e)) (hs : e - E = s) : SI D (j + 1) (M + m * 2 ^ s) E :=
  ⟨h.lo, h.hi, by
    have := h.lo
    have e1 : (e + 65536).toNat = s + (E + 65536).toNat := by omega
    rw [scs_next hj, hd, sc_some, ← h.eq, Int.add_mul, e1, Int.pow_add, Int.mul_assoc]⟩
theorem si_down {D : List Dy} {j : Nat} {m M E e : Int} {s : Nat} (h : SI D j M E) (hj : j < D.length) (hd : D.getD j none = some (m, e)) (hs : E - e = s) (h0 : -65536 ≤ e) (h1 : e ≤ 65536) : SI D (j + 1) (M * 2 ^ s + m) e :=
  ⟨h0, h1, by
    have e1 : (E + 65536).toNat = s + (e + 65536).toNat := by omega
    have := h.eq
    rw [e1, Int.pow_add, ← Int.mul_assoc] at this
    rw [scs_next hj, hd, sc_some, ← this, Int.add_mul]⟩
def bigS : Nat := 131073
theorem bigS_eq : bigS = 131073 := rfl
theorem sc_big {d : Dy} (h : Nd d) : (sc d).natAbs < 2 ^ bigS := by
  match d with
  | none => exact Nat.pow_pos (by omega)
  | some (m, e) =>
    by_cases h0 : m = 0
    · subst h0; rw [sc_some, Int.zero_mul]; exact Nat.pow_pos (by omega)
    · rcases h with ⟨h1, _⟩ | ⟨_, h2, h3⟩
      · exact absurd h1 h0
      · rw [sc_some, Int.natAbs_mul, Int.natAbs_pow]
        have hb := blen_lt m.natAbs
        have : m.natAbs * 2 ^ (e + 65536).toNat < 2 ^ blen m.natAbs * 2 ^ (e + 65536).toNat := Nat.mul_lt_mul_of_pos_right hb (Nat.pow_pos (by omega))
        rw [← Nat.pow_add] at this
        exact Nat.lt_of_lt_of_le this (Nat.pow_le_pow_right (by omega) (by rw [bigS_eq]; omega))
theorem scs_big {l : List Dy} (h : ∀ d ∈ l, Nd d) : (scs l).natAbs ≤ l.length * 2 ^ bigS := by
  induction l with
  | nil => exact Nat.zero_le _
  | cons d l ih =>
    have h1 := sc_big (h d List.mem_cons_self)
    have h2 := ih fun d hd => h d (List.mem_cons_of_mem _ hd)
    rw [scs, List.length_cons, Nat.succ_mul]
    omega
theorem si_blen {D : List Dy} {j : Nat} {M E : Int} (h : SI D j M E) (hn : j ≤ 1000000) (hD : ∀ d ∈ D, Nd d) : blen M.natAbs ≤ 131100 := by
  refine Nat.le_trans (blen_le_of_lt (k := bigS + 27) ?_) (by rw [bigS_eq]; omega)
  have h1 := scs_big (l := D.take j) fun d hd => hD d (List.mem_of_mem_take hd)
  rw [← h.eq, Int.natAbs_mul, Int.natAbs_pow] at h1
  have h2 : M.natAbs ≤ M.natAbs * (2 : Int).natAbs ^ (E + 65536).toNat := Nat.le_mul_of_pos_right _ (Nat.pow_pos (by decide))
  have h3 : (D.take j).length * 2 ^ bigS ≤ 1000000 * 2 ^ bigS := Nat.mul_le_mul_right _ (by rw [List.length_take]; omega)
  have h4 : 1000000 * 2 ^ bigS < 2 ^ 20 * 2 ^ bigS := Nat.mul_lt_mul_of_pos_right (by decide) (Nat.pow_pos (by omega))
  rw [← Nat.pow_add] at h4
  have h5 : (2 : Nat) ^ (20 + bigS) ≤ 2 ^ (bigS + 27) := Nat.pow_le_pow_right (by omega) (by omega)
  omega
theorem si_end {D : List Dy} {n : Nat} {M E : Int} (h : SI D n M E) (hl : D.length = n) (hno : none ∉ D.take n) : dmk M E = dtotal D := by
  have ht : D.take n = D := List.take_of_length_le (by omega)
  have he := h.eq
  rw [ht] at hno he
  unfold dtotal
  rw [if_neg hno, ← he, dmk_shift]
  have := h.lo
  congr 1
  omega
end Go.Proofs.YtilmighjcjgccaaDoor
