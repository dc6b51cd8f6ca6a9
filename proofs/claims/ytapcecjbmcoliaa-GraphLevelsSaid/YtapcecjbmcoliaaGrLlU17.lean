import Derived.Test.YtapcecjbmcoliaaGrLlU16
namespace Go.Proofs.Ytapcecjbmcoliaa
open Go Go.RowKit

/-- where the rows may lie -/
structure RowsOk (B E e b n c : Nat) (rs : List (Nat × Nat)) : Prop where
  len : rs.length = n
  cap : ∀ i, i < rs.length → c ≤ (rs.getD i (0, 0)).2
  lo : ∀ i, i < rs.length → B ≤ (rs.getD i (0, 0)).1
  hi : ∀ i, i < rs.length → (rs.getD i (0, 0)).1 < E
  ne : ∀ i, i < rs.length → (rs.getD i (0, 0)).1 ≠ e
theorem RowsOk.swap {B E e b n c : Nat} {rs : List (Nat × Nat)} (h : RowsOk B E e b n c rs) {i j : Nat} (hi : i < n) (hj : j < n) : RowsOk B E e b n c (swapL rs i j (0, 0)) := by
  have hl := h.len
  have key : ∀ k, k < (swapL rs i j (0, 0)).length → ∃ l, l < rs.length ∧ (swapL rs i j (0, 0)).getD k (0, 0) = rs.getD l (0, 0) := fun k hk => by
    rw [swap_len, hl] at hk
    exact ⟨swI i j k, by rw [hl]; exact swI_lt hi hj hk, swap_get (0, 0) (by omega) (by omega) k⟩
  refine ⟨by rw [swap_len, hl], fun k hk => ?_, fun k hk => ?_, fun k hk => ?_, fun k hk => ?_⟩
  all_goals
    obtain ⟨l, h1, h2⟩ := key k hk
    rw [h2]
  · exact h.cap l h1
  · exact h.lo l h1
  · exact h.hi l h1
  · exact h.ne l h1
theorem Keeps.blk {w w' : World} {B e b k : Nat} {rs : List (Nat × Nat)} {vs : Array Value} {t : TypeId} (h : Keeps B e b rs w w') (hv : VBlk w k vs t) (h1 : k ≠ e) (h2 : k ≠ b) (h3 : ∀ i, i < rs.length → (rs.getD i (0, 0)).1 ≠ k) : VBlk w' k vs t := by
  unfold VBlk; rw [h.rest k h1 h2 h3]; exact hv
theorem VBlk.low {w w' : World} {N k : Nat} {vs : Array Value} {t : TypeId} (hv : VBlk w k vs t) (h : Below N w w') (hk : k < N) : VBlk w' k vs t := by
  unfold VBlk; rw [h.block k hk]; exact hv
theorem Mat.low {w w' : World} {b c N : Nat} {rs : List (Nat × Nat)} {M : List (List Int)} (h : Mat w b rs c M) (ho : Below N w w') (hb : b < N) (hr : ∀ i, i < rs.length → (rs.getD i (0, 0)).1 < N) : Mat w' b rs c M :=
  ⟨SlB.low h.rows ho hb, h.len, fun i hi => ⟨by obtain ⟨r, hv⟩ := (h.row i hi).1; exact ⟨r, hv.low ho (hr i hi)⟩, (h.row i hi).2⟩, h.ne, h.nb⟩
theorem OZ.slE {w : World} {B : Nat} {v : Value} {L : List Int} (h : OZ w B v L) : ∃ ao cap, v = .slice ao L.length cap := by
  by_cases h0 : L = []
  · subst h0
    obtain ⟨h1, h2⟩ := h
    rcases h2 with ⟨rfl, _⟩ | ⟨g, cap, cur, rfl, _⟩
    · exact ⟨none, 0, rfl⟩
    · exact ⟨_, cap, rfl⟩
  · obtain ⟨ao, cap, e, _⟩ := h.ns h0
    exact ⟨ao, cap, e⟩
end Go.Proofs.Ytapcecjbmcoliaa
