/- A block of limbs with something behind them. -/
import Derived.Test.YtjohpdobnedilaaGreatDoorGq
import Derived.Test.YtjohpdobnedilaaGreatDoorGo
import Derived.Test.YtjohpdobnedilaaGreatDoorGd
namespace Go.Proofs.YtjohpdobnedilaaGreatDoor
open Go Go.RowKit

/-- block g holds the limbs L, and T behind them -/
def UB (w : World) (g : Nat) (L : List Int) (T : List Value) : Prop := w.heap[g]? = some (.cells ((L.map (Value.int .u32)) ++ T).toArray 64 (0, 0))
theorem UB.lt {w : World} {g : Nat} {L : List Int} {T : List Value} (h : UB w g L T) : g < w.heap.size := (Array.getElem?_eq_some_iff.1 h).1
theorem UB.cell {w : World} {g : Nat} {L : List Int} {T : List Value} (h : UB w g L T) (j : Nat) (hj : j < L.length) : w.cell? ⟨g, j, none⟩ = some (.int .u32 (L.getD j 0)) := by
  rw [cell_of_row w g j _ _ _ h]
  simp [List.getElem?_append_left, hj, List.getD]
theorem UB.frozen {w : World} {g : Nat} {L : List Int} {T : List Value} (h : UB w g L T) (j : Nat) : w.frozen? ⟨g, j, none⟩ = false := by
  unfold UB at h; simp [World.frozen?, h]
theorem UB.kept {w w' : World} {g : Nat} {L : List Int} {T : List Value} (h : UB w g L T) {B : Nat} (hb : Below B w w') (hg : g < B) : UB w' g L T := by
  unfold UB; rw [hb.block g hg]; exact h
theorem UB.below {w w' : World} {g : Nat} {L : List Int} {T : List Value} (h : UB w g L T) (hb : Below w.heap.size w w') : UB w' g L T := h.kept hb h.lt
theorem UB.only {w w' : World} {g k : Nat} {L : List Int} {T : List Value} (h : UB w g L T) (hb : Only k w w') (hg : g ≠ k) : UB w' g L T := by
  unfold UB; rw [hb.block g hg]; exact h
theorem UB.drewN {w : World} {g : Nat} {L : List Int} {T : List Value} (h : UB w g L T) (n : Nat) : UB (w.drewN n) g L T := h
theorem UB.set {w : World} {g : Nat} {L : List Int} {T : List Value} (h : UB w g L T) (i : Nat) (x : Int) (hi : i < L.length) : UB (w.setCell ⟨g, i, none⟩ (.int .u32 x)) g (L.set i x) T := by
  unfold UB at h ⊢
  have e : ((L.map (Value.int .u32)) ++ T).set i (.int .u32 x) = (L.set i x).map (Value.int .u32) ++ T := by
    rw [List.set_append_left _ _ (by simpa using hi), List.map_set]
  rw [← e]
  simp [World.setCell, Array.getElem?_modify, h]
theorem UB.at {w : World} {g : Nat} {L : List Int} {T : List Value} (h : UB w g L T) : At w (some ⟨g, 0, none⟩) L := fun _ => ⟨g, 0, rfl, fun j hj => by rw [Nat.zero_add]; exact h.cell j hj⟩
theorem UB.sl {w : World} {g n cap : Nat} {L : List Int} {T : List Value} (h : UB w g L T) (hw : Wf L) (hn : L.length = n) (hl : n ≤ 1099511627776) (hc : n ≤ cap) : Sl w (some ⟨g, 0, none⟩) n cap L :=
  ⟨hn, hc, hl, hw, h.at⟩
theorem Own.ub {w : World} {B : Nat} {v : Value} {L : List Int} (h : Own w B v L) (h0 : L ≠ []) : ∃ g cap T, v = .slice (some ⟨g, 0, none⟩) L.length cap ∧ B ≤ g ∧ UB w g L T ∧ L.length ≤ cap := by
  obtain ⟨h1, h2⟩ := h
  rcases h2 with ⟨hv, h3⟩ | ⟨g, cap, cur, hv, hb, hg, hc, hm, hs, ht⟩
  · exact absurd (List.eq_nil_of_length_eq_zero h3) h0
  · refine ⟨g, cap, cur.toList.drop (L.length * 1), hv, hb, ?_, hc⟩
    unfold UB
    rw [← ht, List.take_append_drop, hg]

/-- a list of limbs is cut into a window and what stands before and behind it -/
theorem cut_window (U : List Int) (t m : Nat) : U.take t ++ ((U.drop t).take m ++ U.drop (t + m)) = U := by
  rw [← List.drop_drop, List.take_append_drop, List.take_append_drop]
theorem getD_window (U : List Int) (t m i : Nat) (h : i < m) : ((U.drop t).take m).getD i 0 = U.getD (t + i) 0 := by
  rw [take_getD _ _ _ h]
  simp [List.getD, List.getElem?_drop]

/-- k limbs of V - q ds are made; c is what is carried and borrowed -/
def Minus (V ds : List Int) (q : Int) (k : Nat) (L : List Int) (c : Int) : Prop := L.length = k ∧ Wf L ∧ num L = num (V.take k) - q * num (ds.take k) + 4294967296 ^ k * c
theorem Minus.start (V ds : List Int) (q : Int) : Minus V ds q 0 [] 0 := ⟨rfl, Wf.nil, by simp [num]⟩
theorem Minus.step {V ds L : List Int} {q c c' z : Int} {k : Nat} (h : Minus V ds q k L c) (hz : 0 ≤ z ∧ z < 4294967296) (ht : z = V.getD k 0 - q * ds.getD k 0 - c + 4294967296 * c') : Minus V ds q (k + 1) (L ++ [z]) c' := by
  obtain ⟨h1, h2, h3⟩ := h
  refine ⟨by simp [h1], h2.append (Wf.cons hz Wf.nil), ?_⟩
  rw [num_append, h1, num_take_next V k, num_take_next ds k, Int.pow_succ]
  simp only [num, Int.mul_zero, Int.add_zero]
  have e3 : (4294967296 : Int) ^ k * z = 4294967296 ^ k * V.getD k 0 - 4294967296 ^ k * (q * ds.getD k 0) - 4294967296 ^ k * c + 4294967296 ^ k * 4294967296 * c' := by
    rw [ht, Int.mul_add, Int.mul_sub, Int.mul_sub, Int.mul_assoc]
  have e4 : q * (num (ds.take k) + 4294967296 ^ k * ds.getD k 0) = q * num (ds.take k) + 4294967296 ^ k * (q * ds.getD k 0) := by
    rw [Int.mul_add, Int.mul_left_comm]
  rw [e4]
  omega
/-- one step: the product with what is carried, and the borrow -/
theorem minus_word (x y q c b : Int) (x0 : 0 ≤ x) (x1 : x < 4294967296) (p0 : 0 ≤ q * y) (p1 : q * y ≤ 18446744065119617025) (c0 : 0 ≤ c) (c1 : c ≤ 4294967295) (b0 : 0 ≤ b) (b1 : b ≤ 1) :
    0 ≤ (c + q * y) / 4294967296 ∧ (c + q * y) / 4294967296 ≤ 4294967295 ∧
    0 ≤ IntKind.u64.wrap (IntKind.u64.wrap (x - b) - (c + q * y) % 4294967296) / 9223372036854775808 ∧ IntKind.u64.wrap (IntKind.u64.wrap (x - b) - (c + q * y) % 4294967296) / 9223372036854775808 ≤ 1 ∧
    IntKind.u64.wrap (IntKind.u64.wrap (x - b) - (c + q * y) % 4294967296) % 4294967296 =
      x - q * y - (c + b) + 4294967296 * ((c + q * y) / 4294967296 + IntKind.u64.wrap (IntKind.u64.wrap (x - b) - (c + q * y) % 4294967296) / 9223372036854775808) := by
  rw [IntKind.wrap_u64, IntKind.wrap_u64]
  generalize q * y = p at *
  omega
theorem minus_last (x c b : Int) (x0 : 0 ≤ x) (x1 : x < 4294967296) (c0 : 0 ≤ c) (c1 : c ≤ 4294967295) (b0 : 0 ≤ b) (b1 : b ≤ 1) :
    0 ≤ IntKind.u64.wrap (IntKind.u64.wrap (x - b) - c % 4294967296) / 9223372036854775808 ∧ IntKind.u64.wrap (IntKind.u64.wrap (x - b) - c % 4294967296) / 9223372036854775808 ≤ 1 ∧
    IntKind.u64.wrap (IntKind.u64.wrap (x - b) - c % 4294967296) % 4294967296 =
      x - (c + b) + 4294967296 * (IntKind.u64.wrap (IntKind.u64.wrap (x - b) - c % 4294967296) / 9223372036854775808) := by
  rw [IntKind.wrap_u64, IntKind.wrap_u64]
  omega
theorem blk_grow {w : World} {g k m : Nat} {L : List Int} {z : Int} (h : Blk w g (L ++ List.replicate (m + 1) 0)) (hk : L.length = k) : Blk (w.setCell ⟨g, k, none⟩ (.int .u32 z)) g ((L ++ [z]) ++ List.replicate m 0) := by
  have := h.set k z
  subst hk
  rw [List.set_append_right _ _ (Nat.le_refl _), Nat.sub_self, List.replicate_succ, List.set_cons_zero] at this
  rw [List.append_assoc]
  exact this
end Go.Proofs.YtjohpdobnedilaaGreatDoor
