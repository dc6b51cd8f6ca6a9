import Derived.Below
namespace Go.Proofs.Ytapcecjbmcoliaa

theorem getD_at {zs : List Int} {j : Nat} (h : j < zs.length) : zs.getD j 0 = zs[j] := by simp [List.getD, h]

/-- all are limbs -/
def Wf (zs : List Int) : Prop := ∀ z ∈ zs, 0 ≤ z ∧ z < 4294967296

/-- the number that limbs stand for, the least one first -/
def num : List Int → Int
  | [] => 0
  | z :: zs => z + 4294967296 * num zs

/-- the limbs of a number, without leading zeros -/
def limbs (n : Nat) : List Int := if h : n = 0 then [] else ((n % 4294967296 : Nat) : Int) :: limbs (n / 4294967296)
termination_by n
decreasing_by omega

theorem limbs_zero : limbs 0 = [] := by rw [limbs]; simp
theorem limbs_pos {n : Nat} (h : n ≠ 0) : limbs n = ((n % 4294967296 : Nat) : Int) :: limbs (n / 4294967296) := by rw [limbs]; simp [h]

theorem Wf.nil : Wf [] := by intro z h; cases h
theorem Wf.cons {z : Int} {zs : List Int} (h : 0 ≤ z ∧ z < 4294967296) (hs : Wf zs) : Wf (z :: zs) := by
  intro y hy
  rcases List.mem_cons.1 hy with rfl | hy
  · exact h
  · exact hs y hy
theorem Wf.take {zs : List Int} (h : Wf zs) (n : Nat) : Wf (zs.take n) := fun y hy => h y (List.mem_of_mem_take hy)
theorem Wf.drop {zs : List Int} (h : Wf zs) (n : Nat) : Wf (zs.drop n) := fun y hy => h y (List.mem_of_mem_drop hy)
theorem Wf.append {a b : List Int} (h : Wf a) (k : Wf b) : Wf (a ++ b) := by
  intro y hy
  rcases List.mem_append.1 hy with hy | hy
  · exact h y hy
  · exact k y hy
theorem Wf.getD {zs : List Int} (h : Wf zs) (j : Nat) : 0 ≤ zs.getD j 0 ∧ zs.getD j 0 < 4294967296 := by
  by_cases hj : j < zs.length
  · rw [getD_at hj]; exact h _ (List.getElem_mem hj)
  · simp [List.getD, List.getElem?_eq_none (by omega : zs.length ≤ j)]
theorem Wf.set {zs : List Int} (h : Wf zs) (j : Nat) {x : Int} (hx : 0 ≤ x ∧ x < 4294967296) : Wf (zs.set j x) := by
  intro y hy
  rcases List.mem_or_eq_of_mem_set hy with hy | rfl
  · exact h y hy
  · exact hx
theorem Wf.replicate (n : Nat) : Wf (List.replicate n 0) := by
  intro y hy
  rw [List.mem_replicate] at hy
  omega

theorem Wf.limbs (n : Nat) : Wf (limbs n) := by
  induction n using Nat.strongRecOn with
  | _ n ih =>
    by_cases h : n = 0
    · subst h; rw [limbs_zero]; exact Wf.nil
    · rw [limbs_pos h]
      exact Wf.cons ⟨by omega, by omega⟩ (ih _ (by omega))

end Go.Proofs.Ytapcecjbmcoliaa
