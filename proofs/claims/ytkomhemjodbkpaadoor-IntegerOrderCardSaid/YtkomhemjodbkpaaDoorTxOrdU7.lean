import Derived.Test.YtkomhemjodbkpaaDoorTxOrdU5
import Derived.Test.YtkomhemjodbkpaaDoorTxOrdU6
import Derived.Test.YtkomhemjodbkpaaDoorTxOrdU4
import Derived.Laws.AppendOwn
import Derived.OwnWalk
namespace Go.Proofs.YtkomhemjodbkpaaDoor
open Go.RowKit

theorem num_take_next (zs : List Int) (k : Nat) : num (zs.take (k + 1)) = num (zs.take k) + 4294967296 ^ k * zs.getD k 0 := by
  by_cases h : k < zs.length
  · exact num_take_succ zs k h
  · rw [List.take_of_length_le (by omega), List.take_of_length_le (by omega), List.getD, List.getElem?_eq_none (by omega)]
    simp

end Go.Proofs.YtkomhemjodbkpaaDoor

namespace Go.Proofs.YtkomhemjodbkpaaDoor
open Go Go.RowKit

/-- the value v holds the limbs L in memory of the call's own, in blocks from B on -/
def Own (w : World) (B : Nat) (v : Value) (L : List Int) : Prop := w.ownsRow B 47 1 v L.length (L.map (Value.int .u32))

theorem Own.nil (w : World) (B : Nat) : Own w B (.slice none 0 0) [] := ⟨rfl, Or.inl ⟨rfl, rfl⟩⟩

theorem Own.sl {w : World} {B : Nat} {v : Value} {L : List Int} (h : Own w B v L) (hw : Wf L) (hn : L.length ≤ 1099511627776) : ∃ ao cap, v = .slice ao L.length cap ∧ Sl w ao L.length cap L := by
  have h' := h
  obtain ⟨h1, h2⟩ := h
  rcases h2 with ⟨hv, h0⟩ | ⟨g, cap, cur, hv, hb, hg, hc, hm, hs, ht⟩
  · have hL : L = [] := List.eq_nil_of_length_eq_zero h0
    subst hL
    exact ⟨none, 0, hv, Sl.nil w⟩
  · refine ⟨some ⟨g, 0, none⟩, cap, hv, rfl, hc, hn, hw, fun h0 => ⟨g, 0, rfl, fun j hj => ?_⟩⟩
    subst hv
    have := h'.cellAt j (by omega)
    rw [Nat.zero_add, this, List.getElem?_map, List.getElem?_eq_getElem hj, ← getD_at hj]
    rfl

theorem Own.mono {w : World} {B C : Nat} {v : Value} {L : List Int} (h : Own w B v L) (hC : C ≤ B) : Own w C v L :=
  ⟨h.1, h.2.imp id fun ⟨g, cap, cur, hv, hb, r⟩ => ⟨g, cap, cur, hv, Nat.le_trans hC hb, r⟩⟩

/-- 'append(out, x)' -/
theorem wpList_append_u32 (w0 : World) {ops : Array Oper} {rest : List Oper} {o : Oper} {a : Act} {Q : Exit → Act → World → Prop} (hgd : o.guard = none) (s x : Operand)
    (ho : o.op = .call { callee := .builtin .append, args := #[s, x], argTypes := #[22, 22] })
    (B : Nat) (v : Value) (L : List Int) (y : Int) (hs : a.eval s = v) (hx : a.eval x = .slice (some ⟨w0.heap.size, 0, none⟩) 1 1) (hown : Own w0 B v L) (hB : B ≤ w0.heap.size) (hL : L.length ≤ 1099511627776)
    (h : ∀ v' w', Own w' B v' (L ++ [y]) → Below B w0 w' → wpList Tryd.prog ops Q rest (a.put o.dst v') w') : wpList Tryd.prog ops Q (o :: rest) a (w0.alloc (.cells #[.int .u32 y] 47)) := by
  obtain ⟨i0, hi, hz0, hz1, hz2⟩ := info_parts Tryd.infoU32
  refine wpList_append_own _ hgd s x 22 ho B 47 i0 (.int .u32 0) 1 4 Tryd.underlying22 hi hz0 hz1 hz2 rfl (by decide) v L.length (L.map (Value.int .u32)) hs (World.ownsRow.alloc hown _) ⟨w0.heap.size, 0, none⟩ 1 1 [.int .u32 y] hx rfl ?_ ?_ ?_ ?_ ?_ ?_
  · intro j u hj
    have hn : (w0.alloc (.cells #[.int .u32 y] 47)).heap[w0.heap.size]? = some (.cells #[.int .u32 y] 47 (0, 0)) := heap_alloc_new w0 _
    rcases j with _ | j
    · rw [Addr.add_lit, Nat.zero_add, cell_of_row _ w0.heap.size 0 _ _ _ hn]; exact hj
    · simp at hj
  · intro u hu
    rw [List.mem_singleton] at hu
    subst hu
    rfl
  · unfold maxLen; omega
  · omega
  · simp; omega
  · intro v' w' hown' hg _
    refine h v' w' ?_ ?_
    · unfold Own
      rw [List.length_append, List.map_append]
      exact hown'
    · refine ((Below.refl B w0).alloc hB _).grown hg (by simp; omega) ?_
      intro k hk
      exact (hown.lt k hk).1
end Go.Proofs.YtkomhemjodbkpaaDoor

namespace Go.Proofs.YtkomhemjodbkpaaDoor
open Go Go.RowKit

/-- block g holds the limbs L, and T behind them -/
def UB (w : World) (g : Nat) (L : List Int) (T : List Value) : Prop := w.heap[g]? = some (.cells ((L.map (Value.int .u32)) ++ T).toArray 47 (0, 0))
theorem UB.lt {w : World} {g : Nat} {L : List Int} {T : List Value} (h : UB w g L T) : g < w.heap.size := (Array.getElem?_eq_some_iff.1 h).1
theorem UB.cell {w : World} {g : Nat} {L : List Int} {T : List Value} (h : UB w g L T) (j : Nat) (hj : j < L.length) : w.cell? ⟨g, j, none⟩ = some (.int .u32 (L.getD j 0)) := by
  rw [cell_of_row w g j _ _ _ h]
  simp [List.getElem?_append_left, hj, List.getD]
theorem UB.frozen {w : World} {g : Nat} {L : List Int} {T : List Value} (h : UB w g L T) (j : Nat) : w.frozen? ⟨g, j, none⟩ = false := by
  unfold UB at h; simp [World.frozen?, h]
theorem UB.kept {w w' : World} {g : Nat} {L : List Int} {T : List Value} (h : UB w g L T) {B : Nat} (hb : Below B w w') (hg : g < B) : UB w' g L T := by
  unfold UB; rw [hb.block g hg]; exact h
theorem UB.below {w w' : World} {g : Nat} {L : List Int} {T : List Value} (h : UB w g L T) (hb : Below w.heap.size w w') : UB w' g L T := h.kept hb h.lt
theorem UB.only {w w' : World} {g k : Nat} {L : List Int} {T : List Value} (h : UB w g L T) (hb : Only k w w') (hg : g ≠ k) : UB w' g L T := by
  unfold UB; rw [hb.block g hg]; exact h
theorem UB.drewN {w : World} {g : Nat} {L : List Int} {T : List Value} (h : UB w g L T) (n : Nat) : UB (w.drewN n) g L T := h
theorem UB.set {w : World} {g : Nat} {L : List Int} {T : List Value} (h : UB w g L T) (i : Nat) (x : Int) (hi : i < L.length) : UB (w.setCell ⟨g, i, none⟩ (.int .u32 x)) g (L.set i x) T := by
  unfold UB at h ⊢
  have e : ((L.map (Value.int .u32)) ++ T).set i (.int .u32 x) = (L.set i x).map (Value.int .u32) ++ T := by
    rw [List.set_append_left _ _ (by simpa using hi), List.map_set]
  rw [← e]
  simp [World.setCell, Array.getElem?_modify, h]
theorem UB.at {w : World} {g : Nat} {L : List Int} {T : List Value} (h : UB w g L T) : At w (some ⟨g, 0, none⟩) L := fun _ => ⟨g, 0, rfl, fun j hj => by rw [Nat.zero_add]; exact h.cell j hj⟩
theorem UB.sl {w : World} {g n cap : Nat} {L : List Int} {T : List Value} (h : UB w g L T) (hw : Wf L) (hn : L.length = n) (hl : n ≤ 1099511627776) (hc : n ≤ cap) : Sl w (some ⟨g, 0, none⟩) n cap L :=
  ⟨hn, hc, hl, hw, h.at⟩
theorem Own.ub {w : World} {B : Nat} {v : Value} {L : List Int} (h : Own w B v L) (h0 : L ≠ []) : ∃ g cap T, v = .slice (some ⟨g, 0, none⟩) L.length cap ∧ B ≤ g ∧ UB w g L T ∧ L.length ≤ cap := by
  obtain ⟨h1, h2⟩ := h
  rcases h2 with ⟨hv, h3⟩ | ⟨g, cap, cur, hv, hb, hg, hc, hm, hs, ht⟩
  · exact absurd (List.eq_nil_of_length_eq_zero h3) h0
  · refine ⟨g, cap, cur.toList.drop (L.length * 1), hv, hb, ?_, hc⟩
    unfold UB
    rw [← ht, List.take_append_drop, hg]

end Go.Proofs.YtkomhemjodbkpaaDoor
