import Derived.Test.YtapcecjbmcoliaaGrLlU33
import Derived.Test.YtapcecjbmcoliaaGrLlU34
namespace Go.Proofs.Ytapcecjbmcoliaa

theorem lev0_ok {n r : Nat} {a : Nat → Nat → Bool} (h : r < n) : ∀ k ∈ lev0 n a r, k ≠ [] ∧ k.Pairwise (· < ·) ∧ ∀ v ∈ k, v < n := levs_ok _ _ _ (start_ok h (by simp))
theorem lev0_cons {n r : Nat} (a : Nat → Nat → Bool) : ∃ l, lev0 n a r = [r] :: l := ⟨_, levs_cons (by simp)⟩
theorem lev0_pos (n r : Nat) (a : Nat → Nat → Bool) : 0 < (lev0 n a r).length := by
  obtain ⟨l, h⟩ := lev0_cons (n := n) (r := r) a
  rw [h]
  simp
theorem lev0_len (n r : Nat) (a : Nat → Nat → Bool) : (lev0 n a r).length ≤ n + 1 := levs_len _ _ _
/-- the last list -/
def lastL (n : Nat) (a : Nat → Nat → Bool) (r : Nat) : List Nat := (lev0 n a r).getD ((lev0 n a r).length - 1) []
theorem lastL_mem (n r : Nat) (a : Nat → Nat → Bool) : lastL n a r ∈ lev0 n a r := by
  unfold lastL
  have h := lev0_pos n r a
  have h2 : (lev0 n a r).length - 1 < (lev0 n a r).length := by omega
  simp only [List.getD, List.getElem?_eq_getElem h2, Option.getD_some]
  exact List.getElem_mem h2
theorem lastL_pos {n r : Nat} {a : Nat → Nat → Bool} (h : r < n) : 0 < (lastL n a r).length := List.length_pos_iff.2 (lev0_ok h _ (lastL_mem n r a)).1
theorem lastL_lt {n r : Nat} {a : Nat → Nat → Bool} (h : r < n) : ∀ v ∈ lastL n a r, v < n := (lev0_ok h _ (lastL_mem n r a)).2.2
/-- the next one that Peripheral asks for -/
def nextV (n : Nat) (a : Nat → Nat → Bool) (v : Nat) : Nat := leastV n a (lastL n a v)
theorem nextV_in {n r : Nat} {a : Nat → Nat → Bool} (h : r < n) : nextV n a r ∈ lastL n a r := leastV_in (lastL_pos h)
theorem nextV_lt {n r : Nat} {a : Nat → Nat → Bool} (h : r < n) : nextV n a r < n := lastL_lt h _ (nextV_in h)
inductive PerTo (n : Nat) (a : Nat → Nat → Bool) : Nat → Nat → Prop
  | stop {v : Nat} (h : (lev0 n a (nextV n a v)).length ≤ (lev0 n a v).length) : PerTo n a v v
  | step {v p : Nat} (h : ¬ (lev0 n a (nextV n a v)).length ≤ (lev0 n a v).length) (k : PerTo n a (nextV n a v) p) : PerTo n a v p
theorem PerTo.det {n v p q : Nat} {a : Nat → Nat → Bool} (h : PerTo n a v p) (k : PerTo n a v q) : p = q := by
  induction h with
  | stop h1 =>
    cases k with
    | stop _ => rfl
    | step h2 _ => exact absurd h1 h2
  | step h1 _ ih =>
    cases k with
    | stop h2 => exact absurd h2 h1
    | step _ k2 => exact ih k2
theorem PerTo.lt {n v p : Nat} {a : Nat → Nat → Bool} (h : PerTo n a v p) (hv : v < n) : p < n := by
  induction h with
  | stop _ => exact hv
  | step _ _ ih => exact ih (nextV_lt hv)
end Go.Proofs.Ytapcecjbmcoliaa
