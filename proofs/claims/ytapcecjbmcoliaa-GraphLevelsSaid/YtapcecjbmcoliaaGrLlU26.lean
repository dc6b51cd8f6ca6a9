import Derived.Test.YtapcecjbmcoliaaGrLlU24
import Derived.Test.YtapcecjbmcoliaaGrLlU25
import Derived.Sort.OwnSortedInts
namespace Go.Proofs.Ytapcecjbmcoliaa
open Go Go.RowKit Go.Sort

def sortZ (L : List Int) : List Int := L.mergeSort fun x y => decide (x ≤ y)
theorem sortZ_len (L : List Int) : (sortZ L).length = L.length := by unfold sortZ; exact List.length_mergeSort _
set_option maxRecDepth 100000 in
theorem sort_own (B : Nat) (v : Value) (L : List Int) (w : World) (h : OZ w B v L) (hl : L.length ≤ 1000000) (hB : B ≤ w.heap.size) :
    Calls Try.prog 48 #[v] w fun e w' => e = .returned (.tuple #[]) ∧ OZ w' B v (sortZ L) ∧ Below B w w' := by
  have h0 := h
  obtain ⟨h1, h2⟩ := h
  rcases h2 with ⟨rfl, hz⟩ | ⟨g, cap, cur, rfl, hb, hg, hn, hm, hs, ht⟩
  · have e0 : L = [] := List.eq_nil_of_length_eq_zero hz
    subst e0
    refine (Try.slices_Sort_int_none none 0 w).mono ?_
    rintro e w' ⟨rfl, rfl⟩
    exact ⟨rfl, by unfold sortZ; simpa using OZ.nil _ _, Below.refl _ _⟩
  · have ht' : cur.toList.take L.length = L.map (Value.int .i64) := by rw [Nat.mul_one] at ht; exact ht
    refine (Try.slices_Sort_int g 0 cap L w (holds_of_blockI hg ht') (Array.getElem?_eq_some_iff.1 hg).1 (by omega)).mono ?_
    rintro e w' ⟨rfl, k, os, rfl⟩
    refine ⟨rfl, ?_, (Below.refl B w).grown (grownBy_sortedI _) hB (fun k hk => by
      have : g = k := by simpa using hk
      omega)⟩
    unfold OZ
    have := ownsRow_sortedI (n := k) (os := os) (ss := L) (ts := sortZ L) (sortZ_len L) hb hg hn hm hs
    rw [sortZ_len]
    exact this

theorem rowZ_at {a : Nat → Nat → Bool} {v n k : Nat} (h : k < (rowZ a v n).length) : ∃ x : Nat, (rowZ a v n).getD k 0 = (x : Int) ∧ x < n ∧ a v x = true := by
  unfold rowZ at h ⊢
  rw [List.length_map] at h
  have hm := List.getElem_mem h
  rw [List.mem_filter, List.mem_range] at hm
  exact ⟨_, by simp [List.getD, h], hm.1, hm.2⟩
theorem rowZ_up (a : Nat → Nat → Bool) (v n : Nat) : (rowZ a v n).Pairwise (· < ·) := by
  unfold rowZ
  refine List.Pairwise.map _ (fun x y h => ?_) (List.Pairwise.filter _ List.pairwise_lt_range)
  omega
theorem rowZ_next {a : Nat → Nat → Bool} {v n k : Nat} (h : k + 1 < (rowZ a v n).length) : (rowZ a v n).getD k 0 < (rowZ a v n).getD (k + 1) 0 := by
  have := List.pairwise_iff_getElem.1 (rowZ_up a v n) k (k + 1) (by omega) h (by omega)
  simpa [List.getD, h, show k < (rowZ a v n).length by omega] using this
theorem rowZ_has {a : Nat → Nat → Bool} {v n x : Nat} (h : x < n) : (rowZ a v n).contains (x : Int) = a v x := by
  rw [Bool.eq_iff_iff, List.contains_iff_mem]
  unfold rowZ
  rw [List.mem_map]
  constructor
  · rintro ⟨y, hy, e⟩
    have : y = x := by omega
    subst this
    exact (List.mem_filter.1 hy).2
  · intro h1
    exact ⟨x, List.mem_filter.2 ⟨List.mem_range.2 h, h1⟩, rfl⟩
/-- the vertex before, or -1 -/
def lastZ (l : List Int) (k : Nat) : Int := if k = 0 then -1 else l.getD (k - 1) 0
theorem lastZ_next (l : List Int) (k : Nat) : lastZ l (k + 1) = l.getD k 0 := by simp [lastZ]
theorem lastZ_lt {a : Nat → Nat → Bool} {v n k : Nat} (h : k < (rowZ a v n).length) : lastZ (rowZ a v n) k < (rowZ a v n).getD k 0 := by
  unfold lastZ
  split
  · obtain ⟨x, hx, _⟩ := rowZ_at h
    omega
  · have := rowZ_next (a := a) (v := v) (n := n) (k := k - 1) (by omega)
    rwa [show k - 1 + 1 = k by omega] at this
end Go.Proofs.Ytapcecjbmcoliaa
