import Derived.Test.YtapcecjbmcoliaaGrLlU10
namespace Go.Proofs.Ytapcecjbmcoliaa

/-- what is seen behind all levels -/
def seenL (seen : List Bool) (ls : List (List Nat)) : List Bool := (List.range seen.length).map fun w => seen.getD w false || ls.any fun k => k.contains w
theorem seenL_len (seen : List Bool) (ls : List (List Nat)) : (seenL seen ls).length = seen.length := by simp [seenL]
theorem seenL_get {seen : List Bool} {ls : List (List Nat)} {w : Nat} (h : w < seen.length) : (seenL seen ls).getD w false = (seen.getD w false || ls.any fun k => k.contains w) := by simp [seenL, List.getD, h]
/-- one vertex at the start -/
theorem start_ok {n r : Nat} (h : r < n) {seen : List Bool} (hl : seen.length = n) : LevOk n (seen.set r true) [r] := by
  refine ⟨by rw [List.length_set, hl], List.pairwise_singleton _ _, fun v hv => ?_, fun v hv => ?_⟩
  · rw [List.mem_singleton] at hv; omega
  · rw [List.mem_singleton] at hv
    subst hv
    simp [List.getD, show v < seen.length by omega]
/-- a list that is found without repetitions, sorted, is the next one -/
theorem found_next {n : Nat} {adj : Nat → Nat → Bool} {seen : List Bool} {l F G : List Nat} (hF : ∀ w, w ∈ F ↔ w < n ∧ seen.getD w false = false ∧ ∃ v ∈ l, adj v w = true) (hn : F.Nodup) (hG : G.Perm F) (hs : G.Pairwise (· ≤ ·)) : G = nxt n adj seen l := by
  refine up_same ?_ (nxt_up _ _ _ _) fun x => (hG.mem_iff).trans ((hF x).trans mem_nxt.symm)
  have hnG : G.Nodup := (hG.nodup_iff).2 hn
  exact (hs.and hnG).imp (fun h => Nat.lt_of_le_of_ne h.1 h.2)
end Go.Proofs.Ytapcecjbmcoliaa
