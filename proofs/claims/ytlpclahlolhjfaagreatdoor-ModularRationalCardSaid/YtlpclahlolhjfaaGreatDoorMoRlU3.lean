import Derived.Test.YtlpclahlolhjfaaGreatDoorMoRlU2
import Derived.Laws.Bits64
import Derived.Laws.AppendOwn
import Derived.OwnWalk
import Derived.Lib.ItoaNum
namespace Go.Proofs.YtlpclahlolhjfaaGreatDoor
open Go.RowKit

/-- one limb less another one less the borrow -/
theorem sub_word (x y c : Int) (x0 : 0 ≤ x) (x1 : x < 4294967296) (y0 : 0 ≤ y) (y1 : y < 4294967296) (c0 : 0 ≤ c) (c1 : c ≤ 1) :
    0 ≤ IntKind.u64.wrap (IntKind.u64.wrap (x - y) - c) / 9223372036854775808 ∧ IntKind.u64.wrap (IntKind.u64.wrap (x - y) - c) / 9223372036854775808 ≤ 1 ∧
    IntKind.u64.wrap (IntKind.u64.wrap (x - y) - c) % 4294967296 = x - y - c + 4294967296 * (IntKind.u64.wrap (IntKind.u64.wrap (x - y) - c) / 9223372036854775808) := by
  rw [IntKind.wrap_u64, IntKind.wrap_u64]
  omega

set_option maxRecDepth 100000 in
set_option maxHeartbeats 1000000 in
theorem subFrom_any (g n cap m cb : Nat) (bo : Option Addr) (L ys : List Int) (w : World) (hL : Blk w g L) (hl : L.length = n) (hw : Wf L) (hn : n ≤ 1099511627776)
    (hbl : ys.length = m) (hbw : Wf ys) (hmn : m ≤ n) (hst : Stay g w bo ys) (hfit : num ys ≤ num L) :
    Calls Tryz.prog 112 #[.slice (some ⟨g, 0, none⟩) n cap, .slice bo m cb] w fun e w' => e = .returned (.tuple #[]) ∧ ∃ L', Blk w' g L' ∧ L'.length = n ∧ Wf L' ∧ num L' = num L - num ys ∧ Only g w w' := by
  have HL := Lib.hid hl; clear hl
  have HB := Lib.hid hbl; clear hbl
  have HF := Lib.hid hfit; clear hfit
  go_enter Tryz.func112, Tryz.ntmps112
  go_wp2
  go_loopw [4, 5, 6, 7, 11] (fun c i x d j wr => ∃ (k : Nat) (cc : Int) (Lk : List Int), k ≤ m ∧ j = .int .i64 k ∧ c = .int .u64 cc ∧ 0 ≤ cc ∧ cc ≤ 1 ∧ Taken L Lk k cc (num (ys.take k)) ∧ Blk wr g Lk ∧ Only g w wr)
    (fun _ _ _ _ j _ => m - (intOf j).toNat)
  case atStart => exact ⟨0, 0, L, Nat.zero_le _, rfl, rfl, by omega, by omega, Taken.start hw, hL, Only.refl g w⟩
  case round =>
    obtain ⟨k, cc, Lk, hk, rfl, rfl, hc0, hc1, hA, hbk, ho⟩ := hrel
    by_cases hlt : k < m
    · obtain ⟨bb, ob, rfl, hcb⟩ := hst _ ho (by rw [HB.out]; omega)
      have c1 := hcb k (by rw [HB.out]; omega)
      clear hcb
      have c2 := hbk.cell k (by rw [hA.1, HL.out]; omega)
      have c3 := hbk.frozen k
      rw [getD_of_drop hA.2.2.1] at c2
      have hxr := hw.getD k
      have hyr := hbw.getD k
      obtain ⟨x, hx⟩ : ∃ x, L.getD k 0 = x := ⟨_, rfl⟩
      obtain ⟨y, hy⟩ : ∃ y, ys.getD k 0 = y := ⟨_, rfl⟩
      rw [hx] at c2 hxr
      rw [hy] at c1 hyr
      have HX := Lib.hid hx; clear hx
      have HY := Lib.hid hy; clear hy
      obtain ⟨x0, x1⟩ := hxr
      obtain ⟨y0, y1⟩ := hyr
      go_wp2
      go_roundw
      case rel =>
        obtain ⟨s0, s1, s2⟩ := sub_word x y cc x0 x1 y0 y1 hc0 hc1
        have st := hA.step (by rw [HL.out]; omega) y _ _ ⟨Int.emod_nonneg _ (by omega), Int.emod_lt_of_pos _ (by omega)⟩ (s2.trans (by rw [HX.out]))
        rw [← HY.out, ← num_take_succ ys k (by rw [HB.out]; exact hlt), HY.out] at st
        exact ⟨k + 1, _, _, by omega, by go_num, rfl, s0, s1, st, hbk.set _ _, ho.setCell _ _⟩
      case measure => simp [intOf] <;> omega
    · obtain rfl : k = m := by omega
      have HA := Lib.hid hA; clear hA
      go_wp2
      go_loopw [4, 8] (fun c j wr => ∃ (k : Nat) (cc : Int) (Lk : List Int), k ≤ n ∧ j = .int .i64 k ∧ c = .int .u64 cc ∧ 0 ≤ cc ∧ cc ≤ 1 ∧ Taken L Lk k cc (num ys) ∧ Blk wr g Lk ∧ Only g w wr)
        (fun c j _ => (n - (intOf j).toNat) + (intOf c).toNat)
      case atStart =>
        have := HA.out
        rw [List.take_of_length_le (by rw [HB.out]; exact Nat.le_refl _)] at this
        exact ⟨k, cc, Lk, by omega, rfl, rfl, hc0, hc1, this, hbk, ho⟩
      case round =>
        obtain ⟨i, cc, Li, hi, rfl, rfl, hc0, hc1, hA, hbk, ho⟩ := hrel
        by_cases hcc : 0 < cc
        · have hin : i < n := by have := hA.fits (by rw [HL.out]; exact hi) HF.out hcc; rw [HL.out] at this; exact this
          have c2 := hbk.cell i (by rw [hA.1, HL.out]; omega)
          have c3 := hbk.frozen i
          rw [getD_of_drop hA.2.2.1] at c2
          have hxr := hw.getD i
          obtain ⟨x, hx⟩ : ∃ x, L.getD i 0 = x := ⟨_, rfl⟩
          rw [hx] at c2 hxr
          have HX := Lib.hid hx; clear hx
          obtain ⟨x0, x1⟩ := hxr
          by_cases hx9 : x = 0
          · subst hx9
            go_wp2
            go_roundw
            case rel =>
              have st := hA.step (by rw [HL.out]; omega) 0 4294967295 cc (by omega) (by rw [HX.out]; omega)
              rw [Int.mul_zero, Int.add_zero] at st
              exact ⟨i + 1, _, _, by omega, by go_num, rfl, hc0, hc1, st, hbk.set _ _, ho.setCell _ _⟩
            case measure => simp [intOf] <;> omega
          · have h9 : (x != 0) = true := by simp; omega
            go_wp2
            go_roundw
            case rel =>
              have st := hA.step (by rw [HL.out]; omega) 0 (x - 1) 0 (by omega) (by rw [HX.out]; omega)
              rw [Int.mul_zero, Int.add_zero] at st
              exact ⟨i + 1, _, _, by omega, by go_num, rfl, by omega, by omega, st, hbk.set _ _, ho.setCell _ _⟩
            case measure => simp [intOf] <;> omega
        · obtain rfl : cc = 0 := by omega
          go_wp2
          go_end0
          have hd := hA.done
          exact ⟨rfl, Li, hbk, by rw [hA.1, HL.out], hA.2.1, hd, ho⟩
end Go.Proofs.YtlpclahlolhjfaaGreatDoor

namespace Go.Proofs.YtlpclahlolhjfaaGreatDoor
open Go.RowKit

theorem num_take_next (zs : List Int) (k : Nat) : num (zs.take (k + 1)) = num (zs.take k) + 4294967296 ^ k * zs.getD k 0 := by
  by_cases h : k < zs.length
  · exact num_take_succ zs k h
  · rw [List.take_of_length_le (by omega), List.take_of_length_le (by omega), List.getD, List.getElem?_eq_none (by omega)]
    simp

/-- k limbs of a sum are made, c goes over -/
def SumAt (xs ys : List Int) (k : Nat) (L : List Int) (c : Int) : Prop := L.length = k ∧ Wf L ∧ 0 ≤ c ∧ c ≤ 1 ∧ num L + 4294967296 ^ k * c = num (xs.take k) + num (ys.take k)

theorem SumAt.start (xs ys : List Int) : SumAt xs ys 0 [] 0 := ⟨rfl, Wf.nil, by omega, by omega, by simp [num]⟩

theorem SumAt.step {xs ys L : List Int} {k : Nat} {c t : Int} (h : SumAt xs ys k L c) (hx : Wf xs) (hy : Wf ys) (ht : t = c + xs.getD k 0 + ys.getD k 0) : SumAt xs ys (k + 1) (L ++ [t % 4294967296]) (t / 4294967296) := by
  obtain ⟨h1, h2, h3, h4, h5⟩ := h
  have x1 := hx.getD k
  have y1 := hy.getD k
  refine ⟨by simp [h1], h2.append (Wf.cons ⟨by omega, by omega⟩ Wf.nil), by omega, by omega, ?_⟩
  rw [num_append, h1, num_take_next xs k, num_take_next ys k, Int.pow_succ]
  simp only [num]
  have e : t % 4294967296 + 4294967296 * (t / 4294967296) = t := by omega
  have e2 : (4294967296 : Int) ^ k * (t % 4294967296) + 4294967296 ^ k * 4294967296 * (t / 4294967296) = 4294967296 ^ k * t := by
    rw [Int.mul_assoc, ← Int.mul_add, e]
  have e3 : (4294967296 : Int) ^ k * t = 4294967296 ^ k * c + 4294967296 ^ k * xs.getD k 0 + 4294967296 ^ k * ys.getD k 0 := by rw [ht, Int.mul_add, Int.mul_add]
  simp only [Int.mul_zero, Int.add_zero]
  omega

theorem SumAt.done {xs ys L : List Int} {k : Nat} {c : Int} (h : SumAt xs ys k L c) (hx : xs.length ≤ k) (hy : ys.length ≤ k) : Wf (L ++ [c]) ∧ (L ++ [c]).length = k + 1 ∧ num (L ++ [c]) = num xs + num ys := by
  obtain ⟨h1, h2, h3, h4, h5⟩ := h
  refine ⟨h2.append (Wf.cons ⟨by omega, by omega⟩ Wf.nil), by simp [h1], ?_⟩
  rw [List.take_of_length_le hx, List.take_of_length_le hy] at h5
  rw [num_append, h1]
  simp only [num, Int.mul_zero, Int.add_zero]
  exact h5

theorem getD_past {zs : List Int} {k : Nat} (h : ¬ k < zs.length) : zs.getD k 0 = 0 := by
  rw [List.getD, List.getElem?_eq_none (by omega)]; rfl

/-- k limbs of a difference are made, c is borrowed -/
def DiffAt (xs ys : List Int) (k : Nat) (L : List Int) (c : Int) : Prop := L.length = k ∧ Wf L ∧ 0 ≤ c ∧ c ≤ 1 ∧ num L = num (xs.take k) - num (ys.take k) + 4294967296 ^ k * c

theorem DiffAt.start (xs ys : List Int) : DiffAt xs ys 0 [] 0 := ⟨rfl, Wf.nil, by omega, by omega, by simp [num]⟩

theorem DiffAt.step {xs ys L : List Int} {k : Nat} {c z c' : Int} (h : DiffAt xs ys k L c) (hz : 0 ≤ z ∧ z < 4294967296) (hc : 0 ≤ c' ∧ c' ≤ 1) (ht : z = xs.getD k 0 - ys.getD k 0 - c + 4294967296 * c') : DiffAt xs ys (k + 1) (L ++ [z]) c' := by
  obtain ⟨h1, h2, h3, h4, h5⟩ := h
  refine ⟨by simp [h1], h2.append (Wf.cons hz Wf.nil), hc.1, hc.2, ?_⟩
  rw [num_append, h1, num_take_next xs k, num_take_next ys k, Int.pow_succ]
  simp only [num, Int.mul_zero, Int.add_zero]
  have e3 : (4294967296 : Int) ^ k * z = 4294967296 ^ k * xs.getD k 0 - 4294967296 ^ k * ys.getD k 0 - 4294967296 ^ k * c + 4294967296 ^ k * 4294967296 * c' := by
    rw [ht, Int.mul_add, Int.mul_sub, Int.mul_sub, Int.mul_assoc]
  omega

theorem DiffAt.done {xs ys L : List Int} {k : Nat} {c : Int} (h : DiffAt xs ys k L c) (hx : xs.length ≤ k) (hy : ys.length ≤ k) (hle : num ys ≤ num xs) : num L = num xs - num ys := by
  obtain ⟨h1, h2, h3, h4, h5⟩ := h
  rw [List.take_of_length_le hx, List.take_of_length_le hy] at h5
  have h6 := num_lt h2
  rw [h1] at h6
  have h7 : c = 0 := by
    rcases (show c = 0 ∨ c = 1 by omega) with h | h
    · exact h
    · subst h; omega
  subst h7
  omega

/-- one limb less the borrow less another one -/
theorem sub_word' (x y c : Int) (x0 : 0 ≤ x) (x1 : x < 4294967296) (y0 : 0 ≤ y) (y1 : y < 4294967296) (c0 : 0 ≤ c) (c1 : c ≤ 1) :
    (0 ≤ IntKind.u64.wrap (IntKind.u64.wrap (x - c) - y) / 9223372036854775808 ∧ IntKind.u64.wrap (IntKind.u64.wrap (x - c) - y) / 9223372036854775808 ≤ 1) ∧
    IntKind.u64.wrap (IntKind.u64.wrap (x - c) - y) % 4294967296 = x - y - c + 4294967296 * (IntKind.u64.wrap (IntKind.u64.wrap (x - c) - y) / 9223372036854775808) := by
  rw [IntKind.wrap_u64, IntKind.wrap_u64]
  omega

theorem sub_word0 (x c : Int) (x0 : 0 ≤ x) (x1 : x < 4294967296) (c0 : 0 ≤ c) (c1 : c ≤ 1) :
    (0 ≤ IntKind.u64.wrap (x - c) / 9223372036854775808 ∧ IntKind.u64.wrap (x - c) / 9223372036854775808 ≤ 1) ∧
    IntKind.u64.wrap (x - c) % 4294967296 = x - 0 - c + 4294967296 * (IntKind.u64.wrap (x - c) / 9223372036854775808) := by
  rw [IntKind.wrap_u64]
  omega

/-- a number of fewer limbs -/
theorem len_le_of_le {a b : Nat} (h : a ≤ b) : (limbs a).length ≤ (limbs b).length := limbs_mono h
end Go.Proofs.YtlpclahlolhjfaaGreatDoor

namespace Go.Proofs.YtlpclahlolhjfaaGreatDoor
open Go Go.RowKit

/-- the value v holds the limbs L in memory of the call's own, in blocks from B on -/
def Own (w : World) (B : Nat) (v : Value) (L : List Int) : Prop := w.ownsRow B 66 1 v L.length (L.map (Value.int .u32))

theorem Own.nil (w : World) (B : Nat) : Own w B (.slice none 0 0) [] := ⟨rfl, Or.inl ⟨rfl, rfl⟩⟩

theorem Own.sl {w : World} {B : Nat} {v : Value} {L : List Int} (h : Own w B v L) (hw : Wf L) (hn : L.length ≤ 1099511627776) : ∃ ao cap, v = .slice ao L.length cap ∧ Sl w ao L.length cap L := by
  have h' := h
  obtain ⟨h1, h2⟩ := h
  rcases h2 with ⟨hv, h0⟩ | ⟨g, cap, cur, hv, hb, hg, hc, hm, hs, ht⟩
  · have hL : L = [] := List.eq_nil_of_length_eq_zero h0
    subst hL
    exact ⟨none, 0, hv, Sl.nil w⟩
  · refine ⟨some ⟨g, 0, none⟩, cap, hv, rfl, hc, hn, hw, fun h0 => ⟨g, 0, rfl, fun j hj => ?_⟩⟩
    subst hv
    have := h'.cellAt j (by omega)
    rw [Nat.zero_add, this, List.getElem?_map, List.getElem?_eq_getElem hj, ← getD_at hj]
    rfl

theorem Own.mono {w : World} {B C : Nat} {v : Value} {L : List Int} (h : Own w B v L) (hC : C ≤ B) : Own w C v L :=
  ⟨h.1, h.2.imp id fun ⟨g, cap, cur, hv, hb, r⟩ => ⟨g, cap, cur, hv, Nat.le_trans hC hb, r⟩⟩

/-- 'append(out, x)' -/
theorem wpList_append_u32 (w0 : World) {ops : Array Oper} {rest : List Oper} {o : Oper} {a : Act} {Q : Exit → Act → World → Prop} (hgd : o.guard = none) (s x : Operand)
    (ho : o.op = .call { callee := .builtin .append, args := #[s, x], argTypes := #[25, 25] })
    (B : Nat) (v : Value) (L : List Int) (y : Int) (hs : a.eval s = v) (hx : a.eval x = .slice (some ⟨w0.heap.size, 0, none⟩) 1 1) (hown : Own w0 B v L) (hB : B ≤ w0.heap.size) (hL : L.length ≤ 1099511627776)
    (h : ∀ v' w', Own w' B v' (L ++ [y]) → Below B w0 w' → wpList Tryz.prog ops Q rest (a.put o.dst v') w') : wpList Tryz.prog ops Q (o :: rest) a (w0.alloc (.cells #[.int .u32 y] 66)) := by
  obtain ⟨i0, hi, hz0, hz1, hz2⟩ := info_parts Tryz.infoU32
  refine wpList_append_own _ hgd s x 25 ho B 66 i0 (.int .u32 0) 1 4 Tryz.underlying25 hi hz0 hz1 hz2 rfl (by decide) v L.length (L.map (Value.int .u32)) hs (World.ownsRow.alloc hown _) ⟨w0.heap.size, 0, none⟩ 1 1 [.int .u32 y] hx rfl ?_ ?_ ?_ ?_ ?_ ?_
  · intro j u hj
    have hn : (w0.alloc (.cells #[.int .u32 y] 66)).heap[w0.heap.size]? = some (.cells #[.int .u32 y] 66 (0, 0)) := heap_alloc_new w0 _
    rcases j with _ | j
    · rw [Addr.add_lit, Nat.zero_add, cell_of_row _ w0.heap.size 0 _ _ _ hn]; exact hj
    · simp at hj
  · intro u hu
    rw [List.mem_singleton] at hu
    subst hu
    rfl
  · unfold maxLen; omega
  · omega
  · simp; omega
  · intro v' w' hown' hg _
    refine h v' w' ?_ ?_
    · unfold Own
      rw [List.length_append, List.map_append]
      exact hown'
    · refine ((Below.refl B w0).alloc hB _).grown hg (by simp; omega) ?_
      intro k hk
      exact (hown.lt k hk).1
end Go.Proofs.YtlpclahlolhjfaaGreatDoor

namespace Go.Proofs.YtlpclahlolhjfaaGreatDoor
open Go Go.RowKit

/-- block g holds the limbs L, and T behind them -/
def UB (w : World) (g : Nat) (L : List Int) (T : List Value) : Prop := w.heap[g]? = some (.cells ((L.map (Value.int .u32)) ++ T).toArray 66 (0, 0))
theorem UB.lt {w : World} {g : Nat} {L : List Int} {T : List Value} (h : UB w g L T) : g < w.heap.size := (Array.getElem?_eq_some_iff.1 h).1
theorem UB.cell {w : World} {g : Nat} {L : List Int} {T : List Value} (h : UB w g L T) (j : Nat) (hj : j < L.length) : w.cell? ⟨g, j, none⟩ = some (.int .u32 (L.getD j 0)) := by
  rw [cell_of_row w g j _ _ _ h]
  simp [List.getElem?_append_left, hj, List.getD]
theorem UB.frozen {w : World} {g : Nat} {L : List Int} {T : List Value} (h : UB w g L T) (j : Nat) : w.frozen? ⟨g, j, none⟩ = false := by
  unfold UB at h; simp [World.frozen?, h]
theorem UB.kept {w w' : World} {g : Nat} {L : List Int} {T : List Value} (h : UB w g L T) {B : Nat} (hb : Below B w w') (hg : g < B) : UB w' g L T := by
  unfold UB; rw [hb.block g hg]; exact h
theorem UB.below {w w' : World} {g : Nat} {L : List Int} {T : List Value} (h : UB w g L T) (hb : Below w.heap.size w w') : UB w' g L T := h.kept hb h.lt
theorem UB.only {w w' : World} {g k : Nat} {L : List Int} {T : List Value} (h : UB w g L T) (hb : Only k w w') (hg : g ≠ k) : UB w' g L T := by
  unfold UB; rw [hb.block g hg]; exact h
theorem UB.drewN {w : World} {g : Nat} {L : List Int} {T : List Value} (h : UB w g L T) (n : Nat) : UB (w.drewN n) g L T := h
theorem UB.set {w : World} {g : Nat} {L : List Int} {T : List Value} (h : UB w g L T) (i : Nat) (x : Int) (hi : i < L.length) : UB (w.setCell ⟨g, i, none⟩ (.int .u32 x)) g (L.set i x) T := by
  unfold UB at h ⊢
  have e : ((L.map (Value.int .u32)) ++ T).set i (.int .u32 x) = (L.set i x).map (Value.int .u32) ++ T := by
    rw [List.set_append_left _ _ (by simpa using hi), List.map_set]
  rw [← e]
  simp [World.setCell, Array.getElem?_modify, h]
theorem UB.at {w : World} {g : Nat} {L : List Int} {T : List Value} (h : UB w g L T) : At w (some ⟨g, 0, none⟩) L := fun _ => ⟨g, 0, rfl, fun j hj => by rw [Nat.zero_add]; exact h.cell j hj⟩
theorem UB.sl {w : World} {g n cap : Nat} {L : List Int} {T : List Value} (h : UB w g L T) (hw : Wf L) (hn : L.length = n) (hl : n ≤ 1099511627776) (hc : n ≤ cap) : Sl w (some ⟨g, 0, none⟩) n cap L :=
  ⟨hn, hc, hl, hw, h.at⟩
theorem Own.ub {w : World} {B : Nat} {v : Value} {L : List Int} (h : Own w B v L) (h0 : L ≠ []) : ∃ g cap T, v = .slice (some ⟨g, 0, none⟩) L.length cap ∧ B ≤ g ∧ UB w g L T ∧ L.length ≤ cap := by
  obtain ⟨h1, h2⟩ := h
  rcases h2 with ⟨hv, h3⟩ | ⟨g, cap, cur, hv, hb, hg, hc, hm, hs, ht⟩
  · exact absurd (List.eq_nil_of_length_eq_zero h3) h0
  · refine ⟨g, cap, cur.toList.drop (L.length * 1), hv, hb, ?_, hc⟩
    unfold UB
    rw [← ht, List.take_append_drop, hg]

end Go.Proofs.YtlpclahlolhjfaaGreatDoor

namespace Go.Proofs.YtlpclahlolhjfaaGreatDoor
open Go.Lib
theorem dec_small {u : Nat} (h : u < 10) : decDigits u = [UInt8.ofNat (48 + u)] := by rw [decDigits, dif_pos h]
theorem dec_big {u : Nat} (h : ¬ u < 10) : decDigits u = decDigits (u / 10) ++ [UInt8.ofNat (48 + u % 10)] := by rw [decDigits, dif_neg h]
/-- exactly k digits, with zeros ahead -/
def padD : Nat → Nat → List UInt8
  | 0, _ => []
  | k + 1, r => padD k (r / 10) ++ [UInt8.ofNat (48 + r % 10)]
theorem padD_succ (k r : Nat) : padD (k + 1) r = padD k (r / 10) ++ [UInt8.ofNat (48 + r % 10)] := rfl
theorem padD_length (k r : Nat) : (padD k r).length = k := by
  induction k generalizing r with
  | zero => rfl
  | succ k ih => rw [padD_succ, List.length_append, ih]; rfl
/-- digits in two parts -/
theorem dec_split (k : Nat) {q r : Nat} (hq : 0 < q) (hr : r < 10 ^ k) : decDigits (q * 10 ^ k + r) = decDigits q ++ padD k r := by
  induction k generalizing r with
  | zero =>
    rw [Nat.pow_zero] at hr
    obtain rfl : r = 0 := by omega
    simp [padD]
  | succ k ih =>
    rw [Nat.pow_succ] at hr ⊢
    have e : q * (10 ^ k * 10) = q * 10 ^ k * 10 := (Nat.mul_assoc _ _ _).symm
    have hp : 1 ≤ q * 10 ^ k := Nat.mul_le_mul hq (Nat.one_le_pow _ _ (by omega))
    rw [e, dec_big (by omega), show (q * 10 ^ k * 10 + r) / 10 = q * 10 ^ k + r / 10 by omega, show (q * 10 ^ k * 10 + r) % 10 = r % 10 by omega, ih (by omega)]
    rw [padD_succ, List.append_assoc]
theorem padD_zero (k : Nat) : padD k 0 = List.replicate k 48 := by
  induction k with
  | zero => rfl
  | succ k ih => rw [padD_succ, Nat.zero_div, ih, List.replicate_succ']; rfl
/-- zeros ahead of the digits -/
theorem padD_dec (k r : Nat) (hk : 0 < k) (hr : r < 10 ^ k) : padD k r = List.replicate (k - (decDigits r).length) 48 ++ decDigits r := by
  induction k generalizing r with
  | zero => omega
  | succ k ih =>
    rw [padD_succ]
    by_cases h : r < 10
    · rw [dec_small h, show r / 10 = 0 by omega, show r % 10 = r by omega, padD_zero]; simp
    · rw [dec_big h]
      rcases Nat.eq_zero_or_pos k with rfl | hk
      · simp at hr; omega
      · rw [Nat.pow_succ] at hr
        rw [ih (r / 10) hk (by omega), List.length_append, List.append_assoc]; simp [Nat.add_sub_add_right]
/-- the digits of groups, the lowest first -/
def grpV (B : Nat) : List Nat → Nat
  | [] => 0
  | x :: l => x + B * grpV B l
theorem dec_groups (l : List Nat) (t : Nat) (ht : 0 < t) (hl : ∀ x ∈ l, x < 10 ^ 9) : decDigits (grpV (10 ^ 9) (l ++ [t])) = decDigits t ++ (l.reverse.flatMap (padD 9)) := by
  induction l generalizing t with
  | nil => simp [grpV]
  | cons x l ih =>
    show decDigits (x + 10 ^ 9 * grpV (10 ^ 9) (l ++ [t])) = _
    have hpos : 0 < grpV (10 ^ 9) (l ++ [t]) := by
      clear ih hl
      induction l with
      | nil => show 0 < t + 10 ^ 9 * 0; omega
      | cons y l ih => show 0 < y + 10 ^ 9 * grpV _ (l ++ [t]); have := ih; omega
    rw [show x + 10 ^ 9 * grpV (10 ^ 9) (l ++ [t]) = grpV (10 ^ 9) (l ++ [t]) * 10 ^ 9 + x by rw [Nat.mul_comm, Nat.add_comm], dec_split 9 hpos (hl x (by simp)), ih t ht (fun y hy => hl y (by simp [hy])), List.reverse_cons, List.flatMap_append, List.append_assoc]
    simp
/-- k limbs of L M + g are made in place; c is what is carried -/
structure MulAdd (L : List Int) (M g : Int) (k : Nat) (L' : List Int) (c : Int) : Prop where
  len : L'.length = L.length
  wf : Wf L'
  c0 : 0 ≤ c
  c1 : c ≤ M
  eq : num (L'.take k) + 4294967296 ^ k * c = num (L.take k) * M + g
  rest : L'.drop k = L.drop k
theorem MulAdd.start {L : List Int} {M g : Int} (h : Wf L) (g0 : 0 ≤ g) (g1 : g ≤ M) : MulAdd L M g 0 L g := ⟨rfl, h, g0, g1, by simp [num], rfl⟩
theorem MulAdd.at {L L' : List Int} {M g c : Int} {k : Nat} (h : MulAdd L M g k L' c) : L'.getD k 0 = L.getD k 0 := by
  have h1 : (L'.drop k).getD 0 0 = (L.drop k).getD 0 0 := by rw [h.rest]
  simpa [List.getD, List.getElem?_drop] using h1
theorem MulAdd.step {L L' : List Int} {M g c x : Int} {k : Nat} (h : MulAdd L M g k L' c) (hM : 0 ≤ M) (hw : Wf L) (hk : k < L.length) (hx : L.getD k 0 = x) : MulAdd L M g (k + 1) (L'.set k ((c + x * M) % 4294967296)) ((c + x * M) / 4294967296) := by
  have hxr := hw.getD k
  rw [hx] at hxr
  obtain ⟨x0, x1⟩ := hxr
  have hs : 0 ≤ c + x * M := Int.add_nonneg h.c0 (Int.mul_nonneg x0 hM)
  have hs1 : c + x * M ≤ 4294967295 * M + M := Int.add_comm c _ ▸ Int.add_le_add (Int.mul_le_mul_of_nonneg_right (by omega) hM) h.c1
  have hkl : k < L'.length := by rw [h.len]; exact hk
  refine ⟨by rw [List.length_set]; exact h.len, h.wf.set _ ⟨Int.emod_nonneg _ (by omega), Int.emod_lt_of_pos _ (by omega)⟩, Int.ediv_nonneg hs (by omega), by omega, ?_, ?_⟩
  · rw [num_take_set _ _ _ hkl, num_take_next, hx, Int.pow_succ]
    have e := Int.mul_ediv_add_emod (c + x * M) 4294967296
    have h1 := h.eq
    generalize (c + x * M) / 4294967296 = q at *
    generalize (c + x * M) % 4294967296 = r at *
    rw [Int.mul_assoc, Int.add_assoc, ← Int.mul_add, show r + 4294967296 * q = c + x * M by omega, Int.mul_add, Int.add_mul, Int.mul_assoc]
    omega
  · rw [List.drop_set_of_lt (by omega), ← List.drop_drop, h.rest, List.drop_drop]
theorem MulAdd.all {L L' : List Int} {M g c : Int} (h : MulAdd L M g L.length L' c) : num L' + 4294967296 ^ L.length * c = num L * M + g := by
  have h1 := h.eq
  rw [List.take_of_length_le (by rw [h.len]; exact Nat.le_refl _), List.take_of_length_le (Nat.le_refl _)] at h1
  exact h1
/-- the digits of v in the base 10^9, 2^K of them, the lowest first -/
def digs : Nat → Nat → List Nat
  | 0, v => [v]
  | K + 1, v => digs K (v % 1000000000 ^ (2 ^ K)) ++ digs K (v / 1000000000 ^ (2 ^ K))
theorem digs_zero_len (K v : Nat) : (digs K v).length = 2 ^ K := by
  induction K generalizing v with
  | zero => rfl
  | succ K ih => show (digs K _ ++ digs K _).length = _; rw [List.length_append, ih, ih, Nat.pow_succ]; omega
theorem digs_null (K : Nat) : digs K 0 = List.replicate (2 ^ K) 0 := by
  induction K with
  | zero => rfl
  | succ K ih =>
    show digs K _ ++ digs K _ = _
    rw [Nat.zero_mod, Nat.zero_div, ih, List.replicate_append_replicate, Nat.pow_succ]; congr 1; omega
theorem grpV_append (B : Nat) (a b : List Nat) : grpV B (a ++ b) = grpV B a + B ^ a.length * grpV B b := by
  induction a with
  | nil => simp [grpV]
  | cons x a ih =>
    show x + B * grpV B (a ++ b) = x + B * grpV B a + B ^ (a.length + 1) * grpV B b
    rw [ih, Nat.mul_add, Nat.pow_succ, Nat.mul_comm (B ^ a.length) B, Nat.mul_assoc, Nat.add_assoc]
theorem digs_val (K v : Nat) : grpV 1000000000 (digs K v) = v := by
  induction K generalizing v with
  | zero => show v + 1000000000 * 0 = v; omega
  | succ K ih =>
    show grpV _ (digs K _ ++ digs K _) = v
    rw [grpV_append, ih, ih, digs_zero_len]
    have := Nat.div_add_mod v (1000000000 ^ 2 ^ K)
    omega
theorem digs_lt (K v : Nat) (h : v < 1000000000 ^ (2 ^ K)) : ∀ x ∈ digs K v, x < 1000000000 := by
  induction K generalizing v with
  | zero => intro x hx; rw [show digs 0 v = [v] from rfl, List.mem_singleton] at hx; rw [hx]; simpa using h
  | succ K ih =>
    intro x hx
    have hp : 0 < 1000000000 ^ 2 ^ K := Nat.pow_pos (by omega)
    rcases List.mem_append.1 (show x ∈ digs K _ ++ digs K _ from hx) with hx | hx
    · exact ih _ (Nat.mod_lt _ hp) x hx
    · refine ih _ ?_ x hx
      rw [Nat.div_lt_iff_lt_mul hp, ← Nat.pow_add]
      rw [show 2 ^ (K + 1) = 2 ^ K + 2 ^ K by rw [Nat.pow_succ]; omega] at h
      exact h
/-- a window of a list is exchanged -/
def putW (L : List Int) (o : Nat) (D : List Int) : List Int := L.take o ++ (D ++ L.drop (o + D.length))
theorem putW_len {L D : List Int} {o : Nat} (h : o + D.length ≤ L.length) : (putW L o D).length = L.length := by
  unfold putW; simp; omega
theorem putW_drop {L D : List Int} {o : Nat} (h : o + D.length ≤ L.length) : (putW L o D).drop (o + D.length) = L.drop (o + D.length) := by
  unfold putW
  rw [← List.append_assoc, List.drop_left' (by simp; omega)]
theorem putW_take {L D : List Int} {o : Nat} (h : o + D.length ≤ L.length) : (putW L o D).take (o + D.length) = L.take o ++ D := by
  unfold putW
  rw [← List.append_assoc, List.take_left' (by simp; omega)]
theorem putW_two {L D E : List Int} {o : Nat} (h : o + D.length + E.length ≤ L.length) : putW (putW L o D) (o + D.length) E = putW L o (D ++ E) := by
  have h1 := putW_take (L := L) (D := D) (o := o) (by omega)
  have h2 := putW_drop (L := L) (D := D) (o := o) (by omega)
  have h3 : (putW L o D).drop (o + D.length + E.length) = L.drop (o + D.length + E.length) := by
    rw [← List.drop_drop, h2, List.drop_drop]
  show (putW L o D).take (o + D.length) ++ (E ++ (putW L o D).drop (o + D.length + E.length)) = L.take o ++ ((D ++ E) ++ L.drop (o + (D ++ E).length))
  rw [h1, h3, List.length_append, List.append_assoc, List.append_assoc, Nat.add_assoc]
theorem putW_same {L : List Int} {o n : Nat} (h : (L.drop o).take n = List.replicate n 0) (hn : o + n ≤ L.length) : putW L o (List.replicate n 0) = L := by
  unfold putW
  rw [← h, List.length_take, List.length_drop, Nat.min_eq_left (by omega), ← List.drop_drop, List.take_append_drop, List.take_append_drop]
theorem putW_one {L : List Int} {o : Nat} (x : Int) (h : o < L.length) : putW L o [x] = L.set o x := by
  unfold putW
  rw [List.set_eq_take_append_cons_drop, if_pos h]; rfl
theorem dec_groups9 (l : List Nat) (t : Nat) (ht : 0 < t) (hl : ∀ x ∈ l, x < 1000000000) : Go.Lib.decDigits (grpV 1000000000 (l ++ [t])) = Go.Lib.decDigits t ++ (l.reverse.flatMap (padD 9)) := dec_groups l t ht hl
end Go.Proofs.YtlpclahlolhjfaaGreatDoor
