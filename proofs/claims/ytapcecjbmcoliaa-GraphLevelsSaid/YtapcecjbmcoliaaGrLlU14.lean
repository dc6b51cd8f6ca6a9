import Derived.Test.YtapcecjbmcoliaaGrLlU13
import Derived.Deep.RegionWith
namespace Go.Proofs.Ytapcecjbmcoliaa
open Go Go.RowKit

def swapL {α : Type} (l : List α) (i j : Nat) (d : α) : List α := (l.set i (l.getD j d)).set j (l.getD i d)
def swI (i j k : Nat) : Nat := if k = j then i else if k = i then j else k
theorem swap_len {α : Type} (l : List α) (i j : Nat) (d : α) : (swapL l i j d).length = l.length := by simp [swapL]
theorem swap_get {α : Type} {l : List α} {i j : Nat} (d : α) (hi : i < l.length) (hj : j < l.length) (k : Nat) : (swapL l i j d).getD k d = l.getD (swI i j k) d := by
  unfold swapL swI
  by_cases h1 : k = j
  · subst h1
    rw [if_pos rfl, set_at (by simpa using hj)]
  · rw [if_neg h1, set_off (Ne.symm h1)]
    by_cases h2 : k = i
    · subst h2
      rw [if_pos rfl, set_at hi]
    · rw [if_neg h2, set_off (Ne.symm h2)]
theorem swI_lt {i j k n : Nat} (hi : i < n) (hj : j < n) (hk : k < n) : swI i j k < n := by unfold swI; split <;> (try split) <;> omega
theorem swI_inj {i j k l : Nat} (h : swI i j k = swI i j l) : k = l := by
  unfold swI at h
  repeat' split at h
  all_goals omega
theorem Mat.swap {w : World} {b : Nat} {rs : List (Nat × Nat)} {c : Nat} {M : List (List Int)} (h : Mat w b rs c M) {i j : Nat} (hi : i < rs.length) (hj : j < rs.length) :
    Mat ((w.setCell ⟨b, i, none⟩ (.slice (some ⟨(rs.getD j (0, 0)).1, 0, none⟩) c (rs.getD j (0, 0)).2)).setCell ⟨b, j, none⟩ (.slice (some ⟨(rs.getD i (0, 0)).1, 0, none⟩) c (rs.getD i (0, 0)).2)) b (swapL rs i j (0, 0)) c (swapL M i j []) := by
  have hmi : i < M.length := by rw [h.len]; exact hi
  have hmj : j < M.length := by rw [h.len]; exact hj
  have o1 := only_set1 w b i (.slice (some ⟨(rs.getD j (0, 0)).1, 0, none⟩) c (rs.getD j (0, 0)).2)
  have o2 := only_set1 (w.setCell ⟨b, i, none⟩ (.slice (some ⟨(rs.getD j (0, 0)).1, 0, none⟩) c (rs.getD j (0, 0)).2)) b j (.slice (some ⟨(rs.getD i (0, 0)).1, 0, none⟩) c (rs.getD i (0, 0)).2)
  have hv := (h.rows.set (j := i) (by simpa using hi) (.slice (some ⟨(rs.getD j (0, 0)).1, 0, none⟩) c (rs.getD j (0, 0)).2)).set (j := j) (by simpa using hj) (.slice (some ⟨(rs.getD i (0, 0)).1, 0, none⟩) c (rs.getD i (0, 0)).2)
  refine ⟨?_, by rw [swap_len, swap_len]; exact h.len, fun k hk => ?_, fun k l hk hl e => ?_, fun k hk => ?_⟩
  · have e : ((rs.map fun g => Value.slice (some ⟨g.1, 0, none⟩) c g.2).set i (.slice (some ⟨(rs.getD j (0, 0)).1, 0, none⟩) c (rs.getD j (0, 0)).2)).set j (.slice (some ⟨(rs.getD i (0, 0)).1, 0, none⟩) c (rs.getD i (0, 0)).2) = (swapL rs i j (0, 0)).map fun g => Value.slice (some ⟨g.1, 0, none⟩) c g.2 := by
      unfold swapL
      rw [List.map_set, List.map_set]
    rwa [e] at hv
  · rw [swap_len] at hk
    rw [swap_get (0, 0) hi hj, swap_get [] hmi hmj]
    obtain ⟨h1, h2⟩ := h.row (swI i j k) (swI_lt hi hj hk)
    have hne := h.nb (swI i j k) (swI_lt hi hj hk)
    exact ⟨(h1.only o1 hne).only o2 hne, h2⟩
  · rw [swap_len] at hk hl
    rw [swap_get (0, 0) hi hj, swap_get (0, 0) hi hj] at e
    exact swI_inj (h.ne _ _ (swI_lt hi hj hk) (swI_lt hi hj hl) e)
  · rw [swap_len] at hk
    rw [swap_get (0, 0) hi hj]
    exact h.nb _ (swI_lt hi hj hk)
/-- the first row from r on that is not zero in the column, or the number behind f of them -/
def findR (M : List (List Int)) (col : Nat) : Nat → Nat → Nat
  | 0, r => r
  | f + 1, r => if (M.getD r []).getD col 0 = 0 then findR M col f (r + 1) else r
end Go.Proofs.Ytapcecjbmcoliaa
