import Derived.Test.YtapcecjbmcoliaaGrLlU5
namespace Go.Proofs.Ytapcecjbmcoliaa
open Go Go.RowKit

/-- the call owns the slice v with these ints -/
def OZ (w : World) (B : Nat) (v : Value) (L : List Int) : Prop := w.ownsRow B 3 1 v L.length (L.map fun (f : Int) => Value.int .i64 f)
theorem OZ.nil (w : World) (B : Nat) : OZ w B (.slice none 0 0) [] := World.ownsRow_nil w B _ _
theorem OZ.below {w w' : World} {B : Nat} {v : Value} {L : List Int} (h : OZ w B v L) (hb : Ext w w') : OZ w' B v L := by
  obtain ⟨h1, h2⟩ := h
  refine ⟨h1, ?_⟩
  rcases h2 with h2 | ⟨g, cap, cur, hv, hbb, hg, r⟩
  · exact .inl h2
  · exact .inr ⟨g, cap, cur, hv, hbb, by rw [hb.block g (Array.getElem?_eq_some_iff.1 hg).1]; exact hg, r⟩
/-- written out -/
theorem OZ.form {w : World} {B : Nat} {v : Value} {L : List Int} (h : OZ w B v L) (h0 : L ≠ []) : ∃ g cap, v = .slice (some ⟨g, 0, none⟩) L.length cap ∧ B ≤ g ∧ g < w.heap.size ∧ L.length ≤ cap ∧ (∀ j, j < L.length → w.cell? ⟨g, j, none⟩ = some (.int .i64 (L.getD j 0))) := by
  obtain ⟨h1, h2⟩ := h
  rcases h2 with ⟨rfl, hl⟩ | ⟨g, cap, cur, rfl, hb, hg, hn, hm, hs, ht⟩
  · exact absurd (List.eq_nil_of_length_eq_zero hl) h0
  · refine ⟨g, cap, rfl, hb, (Array.getElem?_eq_some_iff.1 hg).1, hn, fun j hj => ?_⟩
    rw [cell_of_row w g j _ _ _ hg]
    have : (cur.toList.take (L.length * 1))[j]? = (L.map fun (f : Int) => Value.int .i64 f)[j]? := by rw [ht]
    rw [List.getElem?_take, if_pos (by omega)] at this
    simp only [Array.getElem?_toList] at this
    rw [this]
    simp [List.getD, hj]

theorem wpList_append_z (w0 : World) {ops : Array Oper} {rest : List Oper} {o : Oper} {a : Act} {Q : Exit → Act → World → Prop} (hgd : o.guard = none) (s x : Operand)
    (ho : o.op = .call { callee := .builtin .append, args := #[s, x], argTypes := #[22, 22] })
    (B : Nat) (v : Value) (L : List Int) (y : Int) (hs : a.eval s = v) (hx : a.eval x = .slice (some ⟨w0.heap.size, 0, none⟩) 1 1) (hown : OZ w0 B v L) (hB : B ≤ w0.heap.size) (hL : L.length ≤ 1000000)
    (h : ∀ v' w', OZ w' B v' (L ++ [y]) → Below B w0 w' → wpList Try.prog ops Q rest (a.put o.dst v') w') :
    wpList Try.prog ops Q (o :: rest) a (w0.alloc (.cells #[.int .i64 y] 3)) := by
  obtain ⟨i0, hi, hz0, hz1, hz2⟩ := info_parts Try.infoInt
  refine wpList_append_own _ hgd s x 22 ho B 3 i0 (.int .i64 0) 1 8 Try.underlying22 hi hz0 hz1 hz2 rfl (by decide) v L.length _ hs (World.ownsRow.alloc hown _) ⟨w0.heap.size, 0, none⟩ 1 1 [.int .i64 y] hx rfl ?_ ?_ (by unfold maxLen; omega) (by omega) (by simp; omega) ?_
  · intro j u hj
    have hn : (w0.alloc (.cells #[.int .i64 y] 3)).heap[w0.heap.size]? = some (.cells #[.int .i64 y] 3 (0, 0)) := heap_alloc_new w0 _
    rcases j with _ | j
    · rw [Addr.add_lit, Nat.zero_add, cell_of_row _ w0.heap.size 0 _ _ _ hn]; exact hj
    · simp at hj
  · intro u hu; rw [List.mem_singleton] at hu; subst hu; rfl
  · intro v' w' r1 r2 _
    refine h v' w' ?_ ?_
    · unfold OZ
      rw [List.length_append, List.map_append]
      exact r1
    · refine ((Below.refl B w0).alloc hB _).grown r2 (by simp; omega) ?_
      intro k hk
      exact (World.ownsRow.lt hown k hk).1

theorem OZ.ns {w : World} {B : Nat} {v : Value} {L : List Int} (h : OZ w B v L) (h0 : L ≠ []) : ∃ ao cap, v = .slice ao L.length cap ∧ Ns w ao L.length cap L := by
  obtain ⟨g, cap, rfl, _, _, hc, hcell⟩ := h.form h0
  exact ⟨_, cap, rfl, rfl, hc, fun _ => ⟨g, 0, rfl, fun j hj => by rw [Nat.zero_add]; exact hcell j hj⟩⟩
end Go.Proofs.Ytapcecjbmcoliaa
