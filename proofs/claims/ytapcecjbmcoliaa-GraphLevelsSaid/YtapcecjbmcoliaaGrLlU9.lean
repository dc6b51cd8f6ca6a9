import Derived.Test.YtapcecjbmcoliaaGrLlU8
namespace Go.Proofs.Ytapcecjbmcoliaa
open Go Go.RowKit

theorem list_same {α : Type} {l k : List α} (d : α) (h : l.length = k.length) (he : ∀ x, x < l.length → l.getD x d = k.getD x d) : l = k := by
  refine List.ext_getElem h fun x h1 h2 => ?_
  have := he x h1
  simpa [List.getD, h1, h2] using this
/-- the block g begins with these ints -/
def RowB (w : World) (g : Nat) (l : List Int) : Prop := ∃ r : List Value, VBlk w g (l.map (Value.int .i64 ·) ++ r).toArray 3
theorem RowB.c {w : World} {g : Nat} {l : List Int} (h : RowB w g l) {j : Nat} (hj : j < l.length) : w.cell? ⟨g, j, none⟩ = some (.int .i64 (l.getD j 0)) := by
  obtain ⟨r, h⟩ := h
  rw [h.c j]
  simp [List.getD, hj, List.getElem?_append_left]
theorem RowB.f {w : World} {g : Nat} {l : List Int} (h : RowB w g l) (o : Nat) : w.frozen? ⟨g, o, none⟩ = false := by
  obtain ⟨r, h⟩ := h
  exact h.f o
theorem RowB.lt {w : World} {g : Nat} {l : List Int} (h : RowB w g l) : g < w.heap.size := by
  obtain ⟨r, h⟩ := h
  exact h.lt
theorem RowB.only {w w' : World} {g k : Nat} {l : List Int} (h : RowB w g l) (ho : Only k w w') (hne : g ≠ k) : RowB w' g l := by
  obtain ⟨r, h⟩ := h
  exact ⟨r, h.only ho hne⟩
theorem RowB.below {w w' : World} {g : Nat} {l : List Int} (h : RowB w g l) (hb : Below w.heap.size w w') : RowB w' g l := by
  obtain ⟨r, h⟩ := h
  exact ⟨r, h.below hb⟩
theorem RowB.set {w : World} {g : Nat} {l : List Int} (h : RowB w g l) {j : Nat} (hj : j < l.length) (x : Int) : RowB (w.setCell ⟨g, j, none⟩ (.int .i64 x)) g (l.set j x) := by
  obtain ⟨r, h⟩ := h
  refine ⟨r, ?_⟩
  have := h.set j (.int .i64 x)
  have e : (l.map (Value.int .i64 ·) ++ r).toArray.setIfInBounds j (.int .i64 x) = ((l.set j x).map (Value.int .i64 ·) ++ r).toArray := by
    rw [List.setIfInBounds_toArray, List.set_append_left (h := by simpa using hj), List.map_set]
  rwa [e] at this
/-- the block b begins with these slices -/
def SlB (w : World) (b : Nat) (l : List Value) : Prop := ∃ r : List Value, VBlk w b (l ++ r).toArray 22
theorem SlB.c {w : World} {b : Nat} {l : List Value} (h : SlB w b l) {j : Nat} (hj : j < l.length) : w.cell? ⟨b, j, none⟩ = l[j]? := by
  obtain ⟨r, h⟩ := h
  rw [h.c j]
  simp [hj, List.getElem?_append_left]
theorem SlB.f {w : World} {b : Nat} {l : List Value} (h : SlB w b l) (o : Nat) : w.frozen? ⟨b, o, none⟩ = false := by
  obtain ⟨r, h⟩ := h
  exact h.f o
theorem SlB.lt {w : World} {b : Nat} {l : List Value} (h : SlB w b l) : b < w.heap.size := by
  obtain ⟨r, h⟩ := h
  exact h.lt
theorem SlB.only {w w' : World} {b k : Nat} {l : List Value} (h : SlB w b l) (ho : Only k w w') (hne : b ≠ k) : SlB w' b l := by
  obtain ⟨r, h⟩ := h
  exact ⟨r, h.only ho hne⟩
theorem SlB.below {w w' : World} {b : Nat} {l : List Value} (h : SlB w b l) (hb : Below w.heap.size w w') : SlB w' b l := by
  obtain ⟨r, h⟩ := h
  exact ⟨r, h.below hb⟩
theorem SlB.low {w w' : World} {b N : Nat} {l : List Value} (h : SlB w b l) (hb : Below N w w') (hN : b < N) : SlB w' b l := by
  obtain ⟨r, h⟩ := h
  refine ⟨r, ?_⟩
  unfold VBlk
  rw [hb.block b hN]
  exact h
theorem SlB.set {w : World} {b : Nat} {l : List Value} (h : SlB w b l) {j : Nat} (hj : j < l.length) (v : Value) : SlB (w.setCell ⟨b, j, none⟩ v) b (l.set j v) := by
  obtain ⟨r, h⟩ := h
  refine ⟨r, ?_⟩
  have := h.set j v
  have e : (l ++ r).toArray.setIfInBounds j v = (l.set j v ++ r).toArray := by
    rw [List.setIfInBounds_toArray, List.set_append_left (h := hj)]
  rwa [e] at this
/-- rows in blocks of their own: (block, capacity) of each row -/
structure Mat (w : World) (b : Nat) (rs : List (Nat × Nat)) (c : Nat) (M : List (List Int)) : Prop where
  rows : SlB w b (rs.map fun g => Value.slice (some ⟨g.1, 0, none⟩) c g.2)
  len : M.length = rs.length
  row : ∀ i, i < rs.length → RowB w (rs.getD i (0, 0)).1 (M.getD i []) ∧ (M.getD i []).length = c
  ne : ∀ i j, i < rs.length → j < rs.length → (rs.getD i (0, 0)).1 = (rs.getD j (0, 0)).1 → i = j
  nb : ∀ i, i < rs.length → (rs.getD i (0, 0)).1 ≠ b
theorem Mat.slice {w : World} {b : Nat} {rs : List (Nat × Nat)} {c : Nat} {M : List (List Int)} (h : Mat w b rs c M) {i : Nat} (hi : i < rs.length) : w.cell? ⟨b, i, none⟩ = some (.slice (some ⟨(rs.getD i (0, 0)).1, 0, none⟩) c (rs.getD i (0, 0)).2) := by
  rw [h.rows.c (by simpa using hi)]
  simp [List.getD, hi]
theorem Mat.only {w w' : World} {b k : Nat} {rs : List (Nat × Nat)} {c : Nat} {M : List (List Int)} (h : Mat w b rs c M) (ho : Only k w w') (h1 : b ≠ k) (h2 : ∀ i, i < rs.length → (rs.getD i (0, 0)).1 ≠ k) : Mat w' b rs c M :=
  ⟨h.rows.only ho h1, h.len, fun i hi => ⟨(h.row i hi).1.only ho (h2 i hi), (h.row i hi).2⟩, h.ne, h.nb⟩
theorem Mat.below {w w' : World} {b : Nat} {rs : List (Nat × Nat)} {c : Nat} {M : List (List Int)} (h : Mat w b rs c M) (ho : Below w.heap.size w w') : Mat w' b rs c M :=
  ⟨h.rows.below ho, h.len, fun i hi => ⟨(h.row i hi).1.below ho, (h.row i hi).2⟩, h.ne, h.nb⟩
/-- one element is stored -/
theorem Mat.put {w : World} {b : Nat} {rs : List (Nat × Nat)} {c : Nat} {M : List (List Int)} (h : Mat w b rs c M) {i j : Nat} (hi : i < rs.length) (hj : j < c) (x : Int) :
    Mat (w.setCell ⟨(rs.getD i (0, 0)).1, j, none⟩ (.int .i64 x)) b rs c (M.set i ((M.getD i []).set j x)) := by
  have ho := only_set1 w (rs.getD i (0, 0)).1 j (.int .i64 x)
  refine ⟨h.rows.only ho (Ne.symm (h.nb i hi)), by rw [List.length_set]; exact h.len, fun k hk => ?_, h.ne, h.nb⟩
  have hm : i < M.length := by rw [h.len]; exact hi
  by_cases hki : k = i
  · subst hki
    have e : (M.set k ((M.getD k []).set j x)).getD k [] = (M.getD k []).set j x := by simp [List.getD, hm]
    rw [e, List.length_set]
    exact ⟨(h.row k hk).1.set (by rw [(h.row k hk).2]; exact hj) x, (h.row k hk).2⟩
  · have e : (M.set i ((M.getD i []).set j x)).getD k [] = M.getD k [] := by simp [List.getD, Ne.symm hki]
    rw [e]
    exact ⟨(h.row k hk).1.only ho (fun e => hki (h.ne k i hk hi e)), (h.row k hk).2⟩
/-- what a method of echelon leaves alone: blocks below B, and all but its own -/
structure Keeps (B e b : Nat) (rs : List (Nat × Nat)) (w w' : World) : Prop where
  low : Below B w w'
  rest : ∀ k, k ≠ e → k ≠ b → (∀ i, i < rs.length → (rs.getD i (0, 0)).1 ≠ k) → w'.heap[k]? = w.heap[k]?
  size : w'.heap.size = w.heap.size
theorem Keeps.refl (B e b : Nat) (rs : List (Nat × Nat)) (w : World) : Keeps B e b rs w w := ⟨Below.refl _ _, fun _ _ _ _ => rfl, rfl⟩
theorem Keeps.drew {B e b : Nat} {rs : List (Nat × Nat)} {w w' : World} (h : Keeps B e b rs w w') : Keeps B e b rs w w'.drew := ⟨h.low.drew, h.rest, h.size⟩
theorem Keeps.trans {B e b : Nat} {rs : List (Nat × Nat)} {u v w : World} (h : Keeps B e b rs u v) (k : Keeps B e b rs v w) : Keeps B e b rs u w :=
  ⟨Below.trans h.low k.low, fun x h1 h2 h3 => (k.rest x h1 h2 h3).trans (h.rest x h1 h2 h3), k.size.trans h.size⟩
theorem Keeps.row {B e b : Nat} {rs : List (Nat × Nat)} {w w' : World} {i : Nat} (hi : i < rs.length) (hB : B ≤ (rs.getD i (0, 0)).1) (ho : Only (rs.getD i (0, 0)).1 w w') : Keeps B e b rs w w' :=
  ⟨ho.below hB, fun k _ _ h3 => ho.block k (Ne.symm (h3 i hi)), ho.size⟩
theorem Keeps.he {B e b : Nat} {rs : List (Nat × Nat)} {w w' : World} (hB : B ≤ e) (ho : Only e w w') : Keeps B e b rs w w' := ⟨ho.below hB, fun k h1 _ _ => ho.block k h1, ho.size⟩
theorem Keeps.hb {B e b : Nat} {rs : List (Nat × Nat)} {w w' : World} (hB : B ≤ b) (ho : Only b w w') : Keeps B e b rs w w' := ⟨ho.below hB, fun k _ h2 _ => ho.block k h2, ho.size⟩
/-- all elements are residues -/
def Res (p : Int) (M : List (List Int)) : Prop := ∀ l ∈ M, ∀ x ∈ l, 0 ≤ x ∧ x < p
theorem Res.at {p : Int} {M : List (List Int)} (h : Res p M) {i j : Nat} (hi : i < M.length) (hj : j < (M.getD i []).length) : 0 ≤ (M.getD i []).getD j 0 ∧ (M.getD i []).getD j 0 < p := by
  have e : M.getD i [] = M[i] := by simp [List.getD, hi]
  rw [e] at hj ⊢
  have e2 : (M[i]).getD j 0 = (M[i])[j] := by simp [List.getD, hj]
  rw [e2]
  exact h _ (List.getElem_mem hi) _ (List.getElem_mem hj)
/-- one row less a multiple of the pivot's -/
def elimRow (p : Int) (col : Nat) (piv row : List Int) : List Int := if row.getD col 0 = 0 then row else (List.range row.length).map fun x => (row.getD x 0 + (p - row.getD col 0) * piv.getD x 0) % p
def clearM (p : Int) (top col : Nat) (M : List (List Int)) : List (List Int) := (List.range M.length).map fun i => if i = top then M.getD i [] else elimRow p col (M.getD top []) (M.getD i [])
end Go.Proofs.Ytapcecjbmcoliaa
