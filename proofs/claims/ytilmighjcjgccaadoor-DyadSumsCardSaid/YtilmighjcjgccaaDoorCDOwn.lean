/- Lists of dyads that a call makes for itself by appending. -/
import Derived.Test.YtilmighjcjgccaaDoorHg
namespace Go.Proofs.YtilmighjcjgccaaDoor
open Go Go.RowKit

/-- the call owns the slice v with these dyads -/
def OD (w : World) (B : Nat) (v : Value) (L : List DP) : Prop := w.ownsRow B 29 4 v L.length (cells4 L)

theorem OD.nil (w : World) (B : Nat) : OD w B (.slice none 0 0) [] := World.ownsRow_nil w B _ _
theorem OD.below {w w' : World} {B : Nat} {v : Value} {L : List DP} (h : OD w B v L) (hb : Ext w w') : OD w' B v L := by
  obtain ⟨h1, h2⟩ := h
  refine ⟨h1, ?_⟩
  rcases h2 with h2 | ⟨g, cap, cur, hv, hbb, hg, r⟩
  · exact .inl h2
  · exact .inr ⟨g, cap, cur, hv, hbb, by rw [hb.block g (Array.getElem?_eq_some_iff.1 hg).1]; exact hg, r⟩

theorem cells4_one (p : DP) : ∀ u ∈ cells4 [p], u.oneCell' = true := by
  intro u hu
  simp only [cells4, List.mem_cons, List.not_mem_nil, or_false] at hu
  rcases hu with rfl | rfl | rfl | rfl <;> rfl

theorem wpList_append_dyad_own (w0 : World) {ops : Array Oper} {rest : List Oper} {o : Oper} {a : Act} {Q : Exit → Act → World → Prop} (hgd : o.guard = none) (s x : Operand)
    (ho : o.op = .call { callee := .builtin .append, args := #[s, x], argTypes := #[22, 22] })
    (B : Nat) (v : Value) (L : List DP) (p : DP) (hs : a.eval s = v) (hx : a.eval x = .slice (some ⟨w0.heap.size, 0, none⟩) 1 1) (hown : OD w0 B v L) (hB : B ≤ w0.heap.size) (hL : L.length ≤ 1000000)
    (h : ∀ v' w', OD w' B v' (L ++ [p]) → Below B w0 w' → wpList Tryd.prog ops Q rest (a.put o.dst v') w') :
    wpList Tryd.prog ops Q (o :: rest) a (w0.alloc (.cells #[.bool p.bb, .bool p.nb, .slice p.ao p.n p.ca, .int .i64 p.e] 29)) := by
  obtain ⟨i0, hi, hz0, hz1, hz2⟩ := info_parts Tryd.infoDyad
  refine wpList_append_own _ hgd s x 22 ho B 29 i0 _ 4 _ Tryd.underlying22 hi hz0 hz1 hz2 rfl (by decide) v L.length _ hs (World.ownsRow.alloc hown _) ⟨w0.heap.size, 0, none⟩ 1 1 (cells4 [p]) hx rfl ?_ (cells4_one p) (by unfold maxLen; omega) (by omega) (by simp; omega) ?_
  · intro j u hj
    have hn : (w0.alloc (.cells #[.bool p.bb, .bool p.nb, .slice p.ao p.n p.ca, .int .i64 p.e] 29)).heap[w0.heap.size]? = some (.cells #[.bool p.bb, .bool p.nb, .slice p.ao p.n p.ca, .int .i64 p.e] 29 (0, 0)) := heap_alloc_new w0 _
    rw [Addr.add_lit, Nat.zero_add, cell_of_row _ w0.heap.size j _ _ _ hn, ← hj]
    simp [cells4]
  · intro v' w' r1 r2 _
    refine h v' w' ?_ ?_
    · unfold OD
      rw [List.length_append, cells4_append]
      exact r1
    · refine ((Below.refl B w0).alloc hB _).grown r2 (by simp; omega) ?_
      intro k hk
      exact (World.ownsRow.lt hown k hk).1

/-- its cells -/
theorem OD.form {w : World} {B : Nat} {v : Value} {L : List DP} (h : OD w B v L) : ∃ ao cap, v = .slice ao L.length cap ∧ L.length ≤ cap ∧ (0 < L.length → ∃ g, ao = some ⟨g, 0, none⟩ ∧ B ≤ g ∧ ∀ j, j < L.length →
    w.cell? ⟨g, 4 * j, none⟩ = some (.bool (L.getD j DP.zero).bb) ∧ w.cell? ⟨g, 4 * j + 1, none⟩ = some (.bool (L.getD j DP.zero).nb) ∧ w.cell? ⟨g, 4 * j + 2, none⟩ = some (.slice (L.getD j DP.zero).ao (L.getD j DP.zero).n (L.getD j DP.zero).ca) ∧ w.cell? ⟨g, 4 * j + 3, none⟩ = some (.int .i64 (L.getD j DP.zero).e)) := by
  obtain ⟨h1, h2⟩ := h
  rcases h2 with ⟨rfl, h0⟩ | ⟨g, cap, cur, rfl, hb, hg, hn, hm, hs, ht⟩
  · obtain rfl := List.eq_nil_of_length_eq_zero h0
    exact ⟨none, 0, rfl, Nat.le_refl _, fun h => absurd h (by simp)⟩
  · refine ⟨_, cap, rfl, hn, fun _ => ⟨g, rfl, hb, fun j hj => ?_⟩⟩
    have key : ∀ i, i < 4 → w.cell? ⟨g, 4 * j + i, none⟩ = (cells4 L)[4 * j + i]? := by
      intro i hi
      rw [cell_of_row w g _ _ _ _ hg]
      have : (cur.toList.take (L.length * 4))[4 * j + i]? = (cells4 L)[4 * j + i]? := by rw [ht]
      rw [List.getElem?_take, if_pos (by omega)] at this
      simpa only [Array.getElem?_toList] using this
    have k0 := key 0 (by omega)
    have k1 := key 1 (by omega)
    have k2 := key 2 (by omega)
    have k3 := key 3 (by omega)
    obtain ⟨c0, c1, c2, c3⟩ := cells4_get L j hj
    simp only [Nat.add_zero] at k0
    exact ⟨k0.trans c0, k1.trans c1, k2.trans c2, k3.trans c3⟩
end Go.Proofs.YtilmighjcjgccaaDoor
