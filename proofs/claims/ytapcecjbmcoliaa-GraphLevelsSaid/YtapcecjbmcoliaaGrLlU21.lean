import Derived.Test.YtapcecjbmcoliaaGrLlU17
import Derived.Test.YtapcecjbmcoliaaGrLlU18
import Derived.Test.YtapcecjbmcoliaaGrLlU20
import Derived.Deep.AppendLies
namespace Go.Proofs.Ytapcecjbmcoliaa
open Go Go.RowKit

/-- a slice that is nil -/
def nilV : Value := .slice none 0 0
theorem OZ.far {w w' : World} {B : Nat} {v : Value} {L : List Int} (h : OZ w B v L) (hb : ∀ k, v.ownBlock = some k → w'.heap[k]? = w.heap[k]?) : OZ w' B v L := by
  obtain ⟨h1, h2⟩ := h
  refine ⟨h1, ?_⟩
  rcases h2 with h2 | ⟨g, cap, cur, rfl, hbb, hg, r⟩
  · exact .inl h2
  · exact .inr ⟨g, cap, cur, rfl, hbb, by rw [hb g rfl]; exact hg, r⟩
theorem OZ.mono {w : World} {B C : Nat} {v : Value} {L : List Int} (h : OZ w B v L) (hb : C ≤ B) : OZ w C v L := by
  obtain ⟨h1, h2⟩ := h
  refine ⟨h1, ?_⟩
  rcases h2 with h2 | ⟨g, cap, cur, hv, hbb, r⟩
  · exact .inl h2
  · exact .inr ⟨g, cap, cur, hv, by omega, r⟩
theorem OZ.blk {w : World} {B : Nat} {v : Value} {L : List Int} (h : OZ w B v L) : ∀ k, v.ownBlock = some k → B ≤ k ∧ k < w.heap.size := World.ownsRow.lt h
theorem OZ.nsV {w : World} {B : Nat} {v : Value} {L : List Int} (h : OZ w B v L) : ∃ ao cap, v = .slice ao L.length cap ∧ Ns w ao L.length cap L := by
  obtain ⟨ao, cap, rfl⟩ := h.slE
  exact ⟨ao, cap, rfl, h.nsE.2⟩
/-- an own list as a block -/
theorem OZ.rowB {w : World} {B : Nat} {v : Value} {L : List Int} (h : OZ w B v L) (h0 : 0 < L.length) : ∃ g cap, v = .slice (some ⟨g, 0, none⟩) L.length cap ∧ L.length ≤ cap ∧ B ≤ g ∧ RowB w g L := by
  obtain ⟨h1, h2⟩ := h
  rcases h2 with ⟨rfl, hl⟩ | ⟨g, cap, cur, rfl, hbb, hg, hn, hm, hs, ht⟩
  · omega
  · refine ⟨g, cap, rfl, hn, hbb, cur.toList.drop L.length, ?_⟩
    unfold VBlk
    rw [hg]
    congr 2
    apply Array.ext'
    rw [Nat.mul_one] at ht
    have e := (List.take_append_drop L.length cur.toList).symm
    rw [ht] at e
    exact e
/-- rows that a call makes for itself, in a list that it makes by appending -/
structure RS (w : World) (B : Nat) (v : Value) (rs : List Value) (M : List (List Int)) : Prop where
  own : w.ownsRow B 22 1 v rs.length rs
  len : M.length = rs.length
  row : ∀ i, i < rs.length → OZ w B (rs.getD i nilV) (M.getD i [])
  ne : ∀ i j k, i < rs.length → j < rs.length → (rs.getD i nilV).ownBlock = some k → (rs.getD j nilV).ownBlock = some k → i = j
  nb : ∀ i k, i < rs.length → (rs.getD i nilV).ownBlock = some k → v.ownBlock ≠ some k
theorem RS.nil (w : World) (B : Nat) : RS w B (.slice none 0 0) [] [] := ⟨World.ownsRow_nil w B _ _, rfl, fun _ h => absurd h (Nat.not_lt_zero _), fun _ _ _ h => absurd h (Nat.not_lt_zero _), fun _ _ h => absurd h (Nat.not_lt_zero _)⟩
theorem RS.far {w w' : World} {B : Nat} {v : Value} {rs : List Value} {M : List (List Int)} (h : RS w B v rs M) (hv : ∀ k, v.ownBlock = some k → w'.heap[k]? = w.heap[k]?) (hr : ∀ i k, i < rs.length → (rs.getD i nilV).ownBlock = some k → w'.heap[k]? = w.heap[k]?) : RS w' B v rs M := by
  refine ⟨?_, h.len, fun i hi => (h.row i hi).far (fun k hk => hr i k hi hk), h.ne, h.nb⟩
  obtain ⟨h1, h2⟩ := h.own
  refine ⟨h1, ?_⟩
  rcases h2 with h2 | ⟨g, cap, cur, rfl, hbb, hg, r⟩
  · exact .inl h2
  · exact .inr ⟨g, cap, cur, rfl, hbb, by rw [hv g rfl]; exact hg, r⟩
theorem RS.below {w w' : World} {B : Nat} {v : Value} {rs : List Value} {M : List (List Int)} (h : RS w B v rs M) (hb : Ext w w') : RS w' B v rs M :=
  h.far (fun k hk => hb.block k (World.ownsRow.lt h.own k hk).2) (fun i k hi hk => hb.block k ((h.row i hi).blk k hk).2)
theorem RS.slE {w : World} {B : Nat} {v : Value} {rs : List Value} {M : List (List Int)} (h : RS w B v rs M) : ∃ ao cap, v = .slice ao rs.length cap ∧ rs.length ≤ cap := by
  obtain ⟨h1, h2⟩ := h.own
  rcases h2 with ⟨rfl, h0⟩ | ⟨g, cap, cur, rfl, hbb, hg, hn, r⟩
  · exact ⟨none, 0, by rw [h0], by omega⟩
  · exact ⟨_, cap, rfl, hn⟩
theorem RS.cellE {w : World} {B cap n : Nat} {a : Addr} {rs : List Value} {M : List (List Int)} (h : RS w B (.slice (some a) n cap) rs M) : ∃ g, a = ⟨g, 0, none⟩ ∧ ∀ i, i < rs.length → w.cell? ⟨g, i, none⟩ = some (rs.getD i nilV) := by
  obtain ⟨h1, h2⟩ := h.own
  rcases h2 with ⟨e, h0⟩ | ⟨g, c2, cur, e, hbb, hg, hn, hm, hs, ht⟩
  · cases e
  · cases e
    refine ⟨g, rfl, fun i hi => ?_⟩
    rw [cell_of_row w g i _ _ _ hg]
    have : (cur.toList.take (rs.length * 1))[i]? = rs[i]? := by rw [ht]
    rw [List.getElem?_take, if_pos (by omega)] at this
    simp only [Array.getElem?_toList] at this
    rw [this]
    simp [List.getD, hi]
/-- read as a matrix -/
theorem RS.nss {w : World} {B : Nat} {v : Value} {rs : List Value} {M : List (List Int)} (h : RS w B v rs M) : ∃ ao cap, v = .slice ao M.length cap ∧ Nss w ao M.length cap M := by
  obtain ⟨ao, cap, rfl, hc⟩ := h.slE
  rw [h.len]
  refine ⟨ao, cap, rfl, h.len, hc, fun h0 => ?_⟩
  cases ao with
  | none =>
    obtain ⟨h1, h2⟩ := h.own
    rcases h2 with ⟨e, hz⟩ | ⟨g, c2, cur, e, _⟩
    · omega
    · cases e
  | some a =>
    obtain ⟨g, rfl, hcell⟩ := h.cellE
    refine ⟨g, 0, rfl, fun i hi => ?_⟩
    obtain ⟨ri, ci, e, hns⟩ := (h.row i hi).nsV
    refine ⟨ri, ci, ?_, hns⟩
    rw [Nat.zero_add, hcell i hi, e]
theorem wpList_append_rs (w0 : World) {ops : Array Oper} {rest : List Oper} {o : Oper} {a : Act} {Q : Exit → Act → World → Prop} (hgd : o.guard = none) (s x : Operand)
    (ho : o.op = .call { callee := .builtin .append, args := #[s, x], argTypes := #[25, 25] })
    (B C : Nat) (v : Value) (rs : List Value) (M : List (List Int)) (y : Value) (l : List Int) (hs : a.eval s = v) (hx : a.eval x = .slice (some ⟨w0.heap.size, 0, none⟩) 1 1) (h : RS w0 B v rs M) (hy : OZ w0 C y l) (hBC : B ≤ C)
    (hfar : ∀ k, v.ownBlock = some k ∨ (∃ i, i < rs.length ∧ (rs.getD i nilV).ownBlock = some k) → k < C) (hB : B ≤ w0.heap.size) (hL : rs.length ≤ 1000000)
    (K : ∀ v' w', RS w' B v' (rs ++ [y]) (M ++ [l]) → Below B w0 w' → wpList Try.prog ops Q rest (a.put o.dst v') w') :
    wpList Try.prog ops Q (o :: rest) a (w0.alloc (.cells #[y] 22)) := by
  obtain ⟨i0, hi, hz0, hz1, hz2⟩ := info_parts Try.infoRowI
  obtain ⟨yo, yc, hye⟩ := hy.slE
  have hlt1 := fun k hk => World.ownsRow.lt h.own k hk
  have hyne : ∀ k, y.ownBlock = some k → v.ownBlock ≠ some k := fun k hk e => by have := hfar k (Or.inl e); have := (hy.blk k hk).1; omega
  have hyr : ∀ k, y.ownBlock = some k → ∀ i, i < rs.length → (rs.getD i nilV).ownBlock ≠ some k := fun k hk i hi e => by have := hfar k (Or.inr ⟨i, hi, e⟩); have := (hy.blk k hk).1; omega
  refine wpList_append_lies _ hgd s x 25 ho B 22 i0 (.slice none 0 0) 1 24 Try.underlying25 hi hz0 hz1 hz2 rfl (by decide) v rs.length rs hs (World.ownsRow.alloc h.own _) ⟨w0.heap.size, 0, none⟩ 1 1 [y] hx rfl (cell_one_new _ _ _) ?_ (by decide) (by unfold maxLen; omega) (by omega) (by simp; omega) (w0.heap.size + 1) (by simp) ?_
  · intro u hu; rw [List.mem_singleton] at hu; subst hu; rw [hye]; rfl
  · intro g' cap w' r1 r2 r3 r4
    have hblk : ∀ k, k < w0.heap.size → v.ownBlock ≠ some k → w'.heap[k]? = w0.heap[k]? := fun k hk hne => by
      rw [r2.block k (by simp; omega) (fun e => hne e.symm), Below.heap_alloc _ _ _ hk]
    have hg' : ∀ k, k < w0.heap.size → v.ownBlock ≠ some k → Value.ownBlock (.slice (some ⟨g', 0, none⟩) (rs.length + 1) cap) ≠ some k := fun k hk hne e => by
      have e2 : g' = k := by simpa [Value.ownBlock] using e
      subst e2
      rcases r3 with r3 | r3
      · exact hne r3
      · omega
    have hln : (rs ++ [y]).length = rs.length + 1 := by simp
    refine K _ w' ⟨by rw [hln]; exact r1, by simp [h.len], fun i hi2 => ?_, fun i j k hi2 hj2 e1 e2 => ?_, fun i k hi2 e1 => ?_⟩ ?_
    · rw [hln] at hi2
      by_cases hl : i < rs.length
      · rw [getD_app hl, getD_app (by rw [h.len]; exact hl)]
        exact (h.row i hl).far (fun k hk => hblk k ((h.row i hl).blk k hk).2 (h.nb i k hl hk))
      · obtain rfl : rs.length = i := by omega
        rw [getD_end]
        have e : (M ++ [l]).getD rs.length [] = l := by rw [← h.len]; exact getD_end
        rw [e]
        exact (hy.mono hBC).far (fun k hk => hblk k (hy.blk k hk).2 (hyne k hk))
    · rw [hln] at hi2 hj2
      by_cases hl : i < rs.length
      · rw [getD_app hl] at e1
        by_cases hl2 : j < rs.length
        · rw [getD_app hl2] at e2
          exact h.ne i j k hl hl2 e1 e2
        · obtain rfl : rs.length = j := by omega
          rw [getD_end] at e2
          exact absurd e1 (hyr k e2 i hl)
      · obtain rfl : rs.length = i := by omega
        rw [getD_end] at e1
        by_cases hl2 : j < rs.length
        · rw [getD_app hl2] at e2
          exact absurd e2 (hyr k e1 j hl2)
        · omega
    · rw [hln] at hi2
      by_cases hl : i < rs.length
      · rw [getD_app hl] at e1
        exact hg' k ((h.row i hl).blk k e1).2 (h.nb i k hl e1)
      · obtain rfl : rs.length = i := by omega
        rw [getD_end] at e1
        exact hg' k (hy.blk k e1).2 (hyne k e1)
    · refine ((Below.refl B w0).alloc hB _).grown r2 (by simp; omega) ?_
      intro k hk
      exact (hlt1 k hk).1
/-- where all that there is lies -/
theorem RS.lt {w : World} {B : Nat} {v : Value} {rs : List Value} {M : List (List Int)} (h : RS w B v rs M) : ∀ k, v.ownBlock = some k ∨ (∃ i, i < rs.length ∧ (rs.getD i nilV).ownBlock = some k) → k < w.heap.size := by
  rintro k (hk | ⟨i, hi, hk⟩)
  · exact (World.ownsRow.lt h.own k hk).2
  · exact ((h.row i hi).blk k hk).2
end Go.Proofs.Ytapcecjbmcoliaa
