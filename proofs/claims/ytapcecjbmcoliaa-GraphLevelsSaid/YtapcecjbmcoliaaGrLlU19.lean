import Derived.Test.YtapcecjbmcoliaaGrLlU18
import Derived.Test.YtapcecjbmcoliaaGrLlU13
import Derived.Deep.RegionWith
namespace Go.Proofs.Ytapcecjbmcoliaa
open Go Go.RowKit

/-- the block g holds these ints and no more -/
def RowX (w : World) (g : Nat) (l : List Int) : Prop := VBlk w g (l.map (Value.int .i64 ·)).toArray 3
theorem RowX.rowB {w : World} {g : Nat} {l : List Int} (h : RowX w g l) : RowB w g l := ⟨[], by rw [List.append_nil]; exact h⟩
theorem RowX.c {w : World} {g : Nat} {l : List Int} (h : RowX w g l) {j : Nat} (hj : j < l.length) : w.cell? ⟨g, j, none⟩ = some (.int .i64 (l.getD j 0)) := h.rowB.c hj
theorem RowX.f {w : World} {g : Nat} {l : List Int} (h : RowX w g l) (o : Nat) : w.frozen? ⟨g, o, none⟩ = false := h.rowB.f o
theorem RowX.lt {w : World} {g : Nat} {l : List Int} (h : RowX w g l) : g < w.heap.size := h.rowB.lt
theorem RowX.only {w w' : World} {g k : Nat} {l : List Int} (h : RowX w g l) (ho : Only k w w') (hne : g ≠ k) : RowX w' g l := VBlk.only h ho hne
theorem RowX.below {w w' : World} {g : Nat} {l : List Int} (h : RowX w g l) (hb : Below w.heap.size w w') : RowX w' g l := VBlk.below h hb
theorem RowX.set {w : World} {g : Nat} {l : List Int} (h : RowX w g l) {j : Nat} (_hj : j < l.length) (x : Int) : RowX (w.setCell ⟨g, j, none⟩ (.int .i64 x)) g (l.set j x) := by
  have := VBlk.set h j (.int .i64 x)
  have e : (l.map (Value.int .i64 ·)).toArray.setIfInBounds j (.int .i64 x) = ((l.set j x).map (Value.int .i64 ·)).toArray := by
    rw [List.setIfInBounds_toArray, List.map_set]
  rwa [e] at this
/-- the first rows are there, the others are not made -/
structure PMat (w : World) (b n : Nat) (rs : List (Nat × Nat)) (c : Nat) (M : List (List Int)) : Prop where
  rows : VBlk w b ((rs.map fun g => Value.slice (some ⟨g.1, 0, none⟩) c g.2) ++ List.replicate (n - rs.length) (Value.slice none 0 0)).toArray 22
  len : M.length = rs.length
  row : ∀ i, i < rs.length → RowX w (rs.getD i (0, 0)).1 (M.getD i []) ∧ (M.getD i []).length = c
  ne : ∀ i j, i < rs.length → j < rs.length → (rs.getD i (0, 0)).1 = (rs.getD j (0, 0)).1 → i = j
  nb : ∀ i, i < rs.length → (rs.getD i (0, 0)).1 ≠ b
theorem getD_app {α : Type} {l : List α} {a d : α} {i : Nat} (h : i < l.length) : (l ++ [a]).getD i d = l.getD i d := by simp [List.getD, List.getElem?_append_left h]
theorem getD_end {α : Type} {l : List α} {a d : α} : (l ++ [a]).getD l.length d = a := by simp [List.getD]
/-- an element of the last row is stored -/
theorem PMat.put {w : World} {b n : Nat} {rs : List (Nat × Nat)} {c : Nat} {M : List (List Int)} (h : PMat w b n rs c M) {i j : Nat} (hi : i < rs.length) (hj : j < c) (x : Int) :
    PMat (w.setCell ⟨(rs.getD i (0, 0)).1, j, none⟩ (.int .i64 x)) b n rs c (M.set i ((M.getD i []).set j x)) := by
  have ho := only_set1 w (rs.getD i (0, 0)).1 j (.int .i64 x)
  refine ⟨h.rows.only ho (Ne.symm (h.nb i hi)), by rw [List.length_set]; exact h.len, fun k hk => ?_, h.ne, h.nb⟩
  have hm : i < M.length := by rw [h.len]; exact hi
  by_cases hki : k = i
  · subst hki
    rw [set_at hm, List.length_set]
    exact ⟨(h.row k hk).1.set (by rw [(h.row k hk).2]; exact hj) x, (h.row k hk).2⟩
  · rw [set_off (Ne.symm hki)]
    exact ⟨(h.row k hk).1.only ho (fun e => hki (h.ne k i hk hi e)), (h.row k hk).2⟩
theorem PMat.slice {w : World} {b n : Nat} {rs : List (Nat × Nat)} {c : Nat} {M : List (List Int)} (h : PMat w b n rs c M) {i : Nat} (hi : i < rs.length) : w.cell? ⟨b, i, none⟩ = some (.slice (some ⟨(rs.getD i (0, 0)).1, 0, none⟩) c (rs.getD i (0, 0)).2) := by
  rw [h.rows.c i]
  simp [List.getD, hi, List.getElem?_append_left]
theorem PMat.drew {w : World} {b n : Nat} {rs : List (Nat × Nat)} {c : Nat} {M : List (List Int)} (h : PMat w b n rs c M) : PMat w.drew b n rs c M :=
  ⟨h.rows, h.len, fun i hi => ⟨(h.row i hi).1.below (Below.refl _ _).drew, (h.row i hi).2⟩, h.ne, h.nb⟩
/-- rows in blocks that hold them and no more -/
structure MatX (w : World) (b : Nat) (rs : List (Nat × Nat)) (c : Nat) (M : List (List Int)) : Prop where
  rows : VBlk w b (rs.map fun g => Value.slice (some ⟨g.1, 0, none⟩) c g.2).toArray 22
  row : ∀ i, i < rs.length → RowX w (rs.getD i (0, 0)).1 (M.getD i [])
end Go.Proofs.Ytapcecjbmcoliaa
