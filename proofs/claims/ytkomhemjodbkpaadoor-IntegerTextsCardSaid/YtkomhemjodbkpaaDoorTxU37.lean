import Derived.Test.YtkomhemjodbkpaaDoorTxU8
import Derived.Laws.IdiomStrings
namespace Go.Proofs.YtkomhemjodbkpaaDoor
open Go Go.RowKit

theorem Tryd.infoU8 : (Tryd.prog.info? 5).map (fun i => (i.zero, i.size, i.bytes)) = some (some (.int .u8 0), 1, 1) := by kernel_rfl

/-- the value v holds the bytes L in memory of the call's own, in blocks from B on -/
def OwnB (w : World) (B : Nat) (v : Value) (L : List UInt8) : Prop := w.ownsRow B 5 1 v L.length (L.map fun b => Value.int .u8 (b.toNat : Int))
theorem OwnB.nil (w : World) (B : Nat) : OwnB w B (.slice none 0 0) [] := World.ownsRow_nil w B _ _
theorem OwnB.below_of {w w' : World} {B : Nat} {v : Value} {L : List UInt8} (h : OwnB w B v L) (hb : Below w.heap.size w w') : OwnB w' B v L := by
  obtain ⟨h1, h2⟩ := h
  refine ⟨h1, ?_⟩
  rcases h2 with h2 | ⟨g, cap, cur, hv, hbb, hg, r⟩
  · exact .inl h2
  · exact .inr ⟨g, cap, cur, hv, hbb, by rw [hb.block g (Array.getElem?_eq_some_iff.1 hg).1]; exact hg, r⟩
theorem OwnB.keep {w w' : World} {B : Nat} {v : Value} {L : List UInt8} (h : OwnB w B v L) (hk : ∀ k, v.ownBlock = some k → w'.heap[k]? = w.heap[k]?) : OwnB w' B v L := by
  obtain ⟨h1, h2⟩ := h
  refine ⟨h1, ?_⟩
  rcases h2 with h2 | ⟨g, cap, cur, hv, hbb, hg, r⟩
  · exact .inl h2
  · exact .inr ⟨g, cap, cur, hv, hbb, by rw [hk g (by rw [hv]; rfl)]; exact hg, r⟩
/-- written out -/
theorem OwnB.form {w : World} {B : Nat} {v : Value} {L : List UInt8} (h : OwnB w B v L) (h0 : L ≠ []) : ∃ g cap, v = .slice (some ⟨g, 0, none⟩) L.length cap ∧ B ≤ g ∧ g < w.heap.size ∧ L.length ≤ cap ∧ (∀ j, j < L.length → w.cell? ⟨g, j, none⟩ = some (.int .u8 ((L.getD j 0).toNat : Int))) := by
  obtain ⟨h1, h2⟩ := h
  rcases h2 with ⟨rfl, hl⟩ | ⟨g, cap, cur, rfl, hb, hg, hn, hm, hs, ht⟩
  · exact absurd (List.eq_nil_of_length_eq_zero hl) h0
  · refine ⟨g, cap, rfl, hb, (Array.getElem?_eq_some_iff.1 hg).1, hn, fun j hj => ?_⟩
    rw [cell_of_row w g j _ _ _ hg]
    have : (cur.toList.take (L.length * 1))[j]? = (L.map fun b => Value.int .u8 (b.toNat : Int))[j]? := by rw [ht]
    rw [List.getElem?_take, if_pos (by omega)] at this
    simp only [Array.getElem?_toList] at this
    rw [this]
    simp [List.getD, hj]

theorem wpList_append_u8 (w0 : World) {ops : Array Oper} {rest : List Oper} {o : Oper} {a : Act} {Q : Exit → Act → World → Prop} (hgd : o.guard = none) (s x : Operand)
    (ho : o.op = .call { callee := .builtin .append, args := #[s, x], argTypes := #[52, 52] })
    (B : Nat) (v : Value) (L : List UInt8) (y : UInt8) (E : Int) (hE : E = (y.toNat : Int)) (hs : a.eval s = v) (hx : a.eval x = .slice (some ⟨w0.heap.size, 0, none⟩) 1 1) (hown : OwnB w0 B v L) (hB : B ≤ w0.heap.size) (hL : L.length ≤ 1000000)
    (h : ∀ v' w', OwnB w' B v' (L ++ [y]) → Below B w0 w' → (∀ k, k < w0.heap.size → v.ownBlock ≠ some k → w'.heap[k]? = w0.heap[k]?) → wpList Tryd.prog ops Q rest (a.put o.dst v') w') :
    wpList Tryd.prog ops Q (o :: rest) a (w0.alloc (.cells #[.int .u8 E] 5)) := by
  subst hE
  obtain ⟨i0, hi, hz0, hz1, hz2⟩ := info_parts Tryd.infoU8
  refine wpList_append_own _ hgd s x 52 ho B 5 i0 (.int .u8 0) 1 1 Tryd.underlying52 hi hz0 hz1 hz2 rfl (by decide) v L.length _ hs (World.ownsRow.alloc hown _) ⟨w0.heap.size, 0, none⟩ 1 1 [.int .u8 (y.toNat : Int)] hx rfl ?_ ?_ (by unfold maxLen; omega) (by omega) (by simp; omega) ?_
  · intro j u hj
    have hn : (w0.alloc (.cells #[.int .u8 (y.toNat : Int)] 5)).heap[w0.heap.size]? = some (.cells #[.int .u8 (y.toNat : Int)] 5 (0, 0)) := heap_alloc_new w0 _
    rcases j with _ | j
    · rw [Addr.add_lit, Nat.zero_add, cell_of_row _ w0.heap.size 0 _ _ _ hn]; exact hj
    · simp at hj
  · intro u hu; rw [List.mem_singleton] at hu; subst hu; rfl
  · intro v' w' r1 r2 _
    refine h v' w' ?_ ?_ ?_
    · unfold OwnB
      rw [List.length_append, List.map_append]
      exact r1
    · refine ((Below.refl B w0).alloc hB _).grown r2 (by simp; omega) ?_
      intro k hk
      exact (World.ownsRow.lt hown k hk).1
    · intro k hk hne
      rw [r2.block k (by simp; omega) (fun e => hne e.symm), Below.heap_alloc _ _ _ hk]
/-- string(b) -/
theorem OwnB.text {w : World} {B : Nat} {v : Value} {L : List UInt8} (h : OwnB w B v L) (h0 : L ≠ []) : (convert 52 9 v).run Tryd.prog w = .ok (.string ⟨L.toArray⟩) w := by
  obtain ⟨g, cap, rfl, -, -, -, hc⟩ := h.form h0
  refine run_convert_bytes_back w 52 9 5 ⟨g, 0, none⟩ cap L Tryd.underlying52 Tryd.underlying5 Tryd.underlying9 fun j hj => ?_
  rw [Addr.add_lit, Nat.zero_add, hc j hj]
  simp [List.getD, hj]
end Go.Proofs.YtkomhemjodbkpaaDoor
