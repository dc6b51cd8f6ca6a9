import Derived.Test.YtapcecjbmcoliaaGrLlU35
import Derived.Test.YtapcecjbmcoliaaGrLlU31
namespace Go.Proofs.Ytapcecjbmcoliaa

def oneZ (ls : List (List Nat)) : List Int := sortZ (ls.map castZ).flatten
def levS (n : Nat) (a : Nat → Nat → Bool) (S : List Bool) (v : Nat) : List (List Nat) := levs n a (n + 1) (S.set v true) [v]
def stepC (n : Nat) (a : Nat → Nat → Bool) (s : List Bool × List (List Int)) (v : Nat) : List Bool × List (List Int) :=
  if s.1.getD v false then s else (seenL (s.1.set v true) (levS n a s.1 v), s.2 ++ [oneZ (levS n a s.1 v)])
def comps (n : Nat) (a : Nat → Nat → Bool) (j : Nat) : List Bool × List (List Int) := (List.range j).foldl (stepC n a) (List.replicate n false, [])
theorem comps_zero (n : Nat) (a : Nat → Nat → Bool) : comps n a 0 = (List.replicate n false, []) := rfl
theorem comps_succ (n : Nat) (a : Nat → Nat → Bool) (j : Nat) : comps n a (j + 1) = stepC n a (comps n a j) j := by
  unfold comps
  rw [List.range_succ, List.foldl_append]
  rfl
theorem comps_len (n : Nat) (a : Nat → Nat → Bool) (j : Nat) : (comps n a j).1.length = n := by
  induction j with
  | zero => rw [comps_zero]; simp
  | succ j ih =>
    rw [comps_succ]
    unfold stepC
    split
    · exact ih
    · rw [seenL_len, List.length_set, ih]
theorem comps_few (n : Nat) (a : Nat → Nat → Bool) (j : Nat) : (comps n a j).2.length ≤ j := by
  induction j with
  | zero => rw [comps_zero]; simp
  | succ j ih =>
    rw [comps_succ]
    unfold stepC
    split
    · omega
    · rw [List.length_append, List.length_singleton]; omega
theorem flat_bound {n : Nat} : ∀ (ls : List (List Nat)), (∀ k ∈ ls, k.length ≤ n) → (ls.map castZ).flatten.length ≤ ls.length * n
  | [], _ => by simp
  | k :: ls, h => by
    have h1 := flat_bound ls fun x hx => h x (List.mem_cons_of_mem _ hx)
    have h2 := h k List.mem_cons_self
    rw [List.map_cons, List.flatten_cons, List.length_append, castZ_len, List.length_cons, Nat.succ_mul]
    omega
theorem levS_facts {n v : Nat} {a : Nat → Nat → Bool} {S : List Bool} (hS : S.length = n) (hv : v < n) (hn : n ≤ 200) :
    (∀ i, i < (levS n a S v).length → 0 < (((levS n a S v).map castZ).getD i []).length) ∧ (levS n a S v).length ≤ 201 ∧ ((levS n a S v).map castZ).flatten.length ≤ 1000000 := by
  have hok := levs_ok (adj := a) (n + 1) _ _ (start_ok hv hS)
  have hlen : (levS n a S v).length ≤ n + 1 := levs_len _ _ _
  refine ⟨fun i hi => ?_, by omega, ?_⟩
  · have hm : (levS n a S v)[i] ∈ levS n a S v := List.getElem_mem hi
    have h1 := List.length_pos_iff.2 (hok _ hm).1
    have e : ((levS n a S v).map castZ).getD i [] = castZ (levS n a S v)[i] := by simp [List.getD, hi]
    rw [e, castZ_len]
    exact h1
  · have h1 := flat_bound (n := n) (levS n a S v) fun k hk => nodup_le ((hok k hk).2.1.imp (fun h => Nat.ne_of_lt h)) (hok k hk).2.2
    have h2 : (levS n a S v).length * n ≤ 201 * 200 := Nat.mul_le_mul (by omega) hn
    omega
end Go.Proofs.Ytapcecjbmcoliaa
