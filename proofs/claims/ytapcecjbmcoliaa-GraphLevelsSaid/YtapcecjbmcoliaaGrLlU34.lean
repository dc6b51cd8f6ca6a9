import Derived.Test.YtapcecjbmcoliaaGrLlU27
namespace Go.Proofs.Ytapcecjbmcoliaa

def degN (n : Nat) (a : Nat → Nat → Bool) (v : Nat) : Nat := (rowN n a v).length
/-- the first one of least degree -/
def leastV (n : Nat) (a : Nat → Nat → Bool) (l : List Nat) : Nat := (l.drop 1).foldl (fun m x => if degN n a x < degN n a m then x else m) (l.getD 0 0)
theorem leastV_take {n : Nat} {a : Nat → Nat → Bool} {l : List Nat} {k : Nat} (h : k < l.length) (h0 : 0 < k) :
    leastV n a (l.take (k + 1)) = if degN n a (l.getD k 0) < degN n a (leastV n a (l.take k)) then l.getD k 0 else leastV n a (l.take k) := by
  unfold leastV
  have e1 : (l.take (k + 1)).drop 1 = (l.take k).drop 1 ++ [l.getD k 0] := by
    rw [List.take_succ_eq_append_getElem h, List.drop_append_of_le_length (by rw [List.length_take]; omega)]
    simp [List.getD, h]
  have e2 : (l.take (k + 1)).getD 0 0 = (l.take k).getD 0 0 := by
    simp [List.getD, h0]
  rw [e1, e2, List.foldl_append]
  rfl
theorem leastV_one {n : Nat} {a : Nat → Nat → Bool} {l : List Nat} (h : 0 < l.length) : leastV n a (l.take 1) = l.getD 0 0 := by
  unfold leastV
  cases l with
  | nil => simp at h
  | cons x l => simp
theorem leastV_mem {n : Nat} {a : Nat → Nat → Bool} : ∀ {k : Nat} {l : List Nat}, k < l.length → leastV n a (l.take (k + 1)) ∈ l
  | 0, l, h => by
    rw [leastV_one h]
    simp only [List.getD, List.getElem?_eq_getElem h, Option.getD_some]
    exact List.getElem_mem h
  | k + 1, l, h => by
    rw [leastV_take h (by omega)]
    split
    · simp only [List.getD, List.getElem?_eq_getElem h, Option.getD_some]
      exact List.getElem_mem h
    · exact leastV_mem (k := k) (by omega)
theorem leastV_in {n : Nat} {a : Nat → Nat → Bool} {l : List Nat} (h : 0 < l.length) : leastV n a l ∈ l := by
  have := leastV_mem (n := n) (a := a) (k := l.length - 1) (l := l) (by omega)
  rwa [show l.length - 1 + 1 = l.length by omega, List.take_length] at this
end Go.Proofs.Ytapcecjbmcoliaa
