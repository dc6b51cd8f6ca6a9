import Derived.RangeFuncNested
import Derived.RangeFuncBound
import Derived.RangeFuncCalls
import Derived.RangeFuncLeaves
import Derived.Shelf.Abstract
import Derived.Shelf.RegionOpen
import Derived.WalkKit
import Derived.OwnWalkIn
import Derived.TacticsInMore
import Derived.LoopNIn
import Derived.LoopIn
import Derived.Test.YthicfkeiggcjjaaGreatDoorEcDlU7
import Derived.Test.YthicfkeiggcjjaaGreatDoorEcDlU3
import Derived.Test.YthicfkeiggcjjaaGreatDoorEcDlU5
import Derived.Test.YthicfkeiggcjjaaGreatDoorEcDlU40
import Derived.Test.YthicfkeiggcjjaaGreatDoorEcDlU4
import Derived.Test.YthicfkeiggcjjaaGreatDoorEcDlU14
namespace Go.Proofs.YthicfkeiggcjjaaGreatDoor
open Go.RowKit Go.Shelf
attribute [local go_sem] Oper.semAt_some

theorem builder_below {T e : TypeId} {B b : Nat} {p : Value} {bs : List Value} {w w' : World} (h : Lib.BuilderAtF T e B b p bs w) (hb : Below w.heap.size w w') : Lib.BuilderAtF T e B b p bs w' := by
  have hlt := h.lt
  obtain ⟨h1, v, h2, h3, h4⟩ := h
  refine ⟨h1, v, by rw [hb.block b hlt]; exact h2, ?_, h4⟩
  obtain ⟨k1, k2⟩ := h3
  refine ⟨k1, ?_⟩
  rcases k2 with k2 | ⟨g, cap, cur, fz, hv, hBg, hg, r⟩
  · exact .inl k2
  · exact .inr ⟨g, cap, cur, fz, hv, hBg, by rw [hb.block g (Array.getElem?_eq_some_iff.1 hg).1]; exact hg, r⟩

set_option maxRecDepth 100000 in
set_option maxHeartbeats 1000000 in
theorem backward_any (ao : Option Addr) (n cap : Nat) (w : World) :
    Calls Tryz.prog 56 #[.slice ao n cap] w fun e w' => e = .returned (.func (.func 77) #[] #[.pointer (some ⟨w.heap.size, 0, none⟩)]) ∧ w' = w.alloc (.cells #[.slice ao n cap] 50) := by
  go_enter Tryz.func56, Tryz.ntmps56
  go_wp2
  go_ret
  exact ⟨rfl, rfl⟩

end Go.Proofs.YthicfkeiggcjjaaGreatDoor

namespace Go.Proofs.YthicfkeiggcjjaaGreatDoor
open Go Go.RowKit

theorem grpV_tlen (B : Nat) (D : List Nat) (m : Nat) (hm : m ≤ D.length) : grpV B (D.take m) = grpV B (D.take (tlen (D.map Int.ofNat) m)) := by
  induction m with
  | zero => rfl
  | succ m ih =>
    unfold tlen
    split
    · rename_i h
      have hl : m < D.length := by omega
      have h1 : D[m] = 0 := by
        rw [List.getD, List.getElem?_map, List.getElem?_eq_getElem hl] at h
        simpa using h
      rw [List.take_succ_eq_append_getElem hl, grpV_append, h1, ← ih (by omega)]
      simp [grpV]
    · rfl
theorem tlen_top (zs : List Int) (m j : Nat) (h : tlen zs m = j + 1) : zs.getD j 0 ≠ 0 := by
  induction m with
  | zero => simp [tlen] at h
  | succ m ih =>
    unfold tlen at h
    split at h
    · exact ih h
    · rename_i h0
      obtain rfl : m = j := by omega
      exact h0
/-- the indices that have come when k rounds are over -/
def backs (n k : Nat) : List Nat := (List.range k).map fun j => n - 1 - j
theorem backs_succ (n k : Nat) : backs n (k + 1) = backs n k ++ [n - 1 - k] := by simp [backs, List.range_succ]
theorem backs_len (n k : Nat) : (backs n k).length = k := by simp [backs]
theorem backs_all (D : List Nat) (n : Nat) (hn : n ≤ D.length) : (backs n n).map (fun i => D.getD i 0) = (D.take n).reverse := by
  apply List.ext_getElem
  · simp [backs, Nat.min_eq_left hn]
  · intro i h1 h2
    have hi : i < n := by simpa [backs] using h1
    have h3 : n - 1 - i < D.length := by omega
    simp only [backs, List.map_map, List.getElem_map, List.getElem_range, Function.comp, List.getElem_reverse, List.length_take, Nat.min_eq_left hn, List.getElem_take]
    rw [List.getD, List.getElem?_eq_getElem h3]; rfl
theorem dec_digs (K v n : Nat) (hv : v < 1000000000 ^ 2 ^ K) (hT : tlen ((digs K v).map Int.ofNat) (2 ^ K) = n + 1) :
    0 < (digs K v).getD n 0 ∧ n < 2 ^ K ∧ Go.Lib.decDigits v = Go.Lib.decDigits ((digs K v).getD n 0) ++ (backs n n).flatMap (fun i => padD 9 ((digs K v).getD i 0)) := by
  have hl := digs_zero_len K v
  have hn : n < 2 ^ K := by have := tlen_le ((digs K v).map Int.ofNat) (2 ^ K); omega
  have h0 : 0 < (digs K v).getD n 0 := by
    have := tlen_top _ _ _ hT
    rw [List.getD, List.getElem?_map, List.getElem?_eq_getElem (by omega)] at this
    rw [List.getD, List.getElem?_eq_getElem (by omega)]
    simp at this ⊢; omega
  refine ⟨h0, hn, ?_⟩
  have h1 := grpV_tlen 1000000000 (digs K v) (2 ^ K) (by omega)
  rw [hT, List.take_of_length_le (by omega), digs_val, List.take_succ_eq_append_getElem (by omega)] at h1
  have h2 : (digs K v)[n]'(by omega) = (digs K v).getD n 0 := by rw [List.getD, List.getElem?_eq_getElem (by omega)]; rfl
  rw [h2] at h1
  have h3 := dec_groups9 ((digs K v).take n) ((digs K v).getD n 0) h0 (fun x hx => digs_lt K v hv x (List.mem_of_mem_take hx))
  rw [← h1, ← backs_all _ _ (by omega), List.flatMap_map] at h3
  exact h3
theorem tlen_pos (K v : Nat) (h0 : 0 < v) : 0 < tlen ((digs K v).map Int.ofNat) (2 ^ K) := by
  rcases Nat.eq_zero_or_pos (tlen ((digs K v).map Int.ofNat) (2 ^ K)) with h | h
  · have h1 := grpV_tlen 1000000000 (digs K v) (2 ^ K) (by rw [digs_zero_len]; exact Nat.le_refl _)
    rw [h, List.take_of_length_le (by rw [digs_zero_len]; exact Nat.le_refl _), digs_val] at h1
    simp [grpV] at h1; omega
  · exact h
theorem digs_get (K v i : Nat) (hv : v < 1000000000 ^ 2 ^ K) : (digs K v).getD i 0 < 1000000000 := by
  rcases Nat.lt_or_ge i (digs K v).length with h | h
  · rw [List.getD, List.getElem?_eq_getElem h]
    exact digs_lt K v hv _ (List.getElem_mem h)
  · rw [List.getD, List.getElem?_eq_none h]; decide
theorem dec_len9 {t : Nat} (h : t < 1000000000) : (Go.Lib.decDigits t).length ≤ 9 := by
  have h1 := padD_dec 9 t (by omega) h
  have h2 := congrArg List.length h1
  rw [padD_length, List.length_append, List.length_replicate] at h2
  omega
theorem digs_int (K v i : Nat) : ((digs K v).map Int.ofNat)[i]?.getD 0 = ((digs K v).getD i 0 : Nat) := by
  rw [List.getElem?_map, List.getD]
  cases (digs K v)[i]? <;> rfl
end Go.Proofs.YthicfkeiggcjjaaGreatDoor

namespace Go.Proofs.YthicfkeiggcjjaaGreatDoor
open Go Go.RowKit Go.Shelf
attribute [local go_sem] Oper.semAt_some

/-- whatever is neither a row of bytes nor a builder lies as it lay -/
def KA (W W' : World) : Prop := ∀ (k : Nat) (o : Obj), W.heap[k]? = some o → (∀ c f, o ≠ Obj.cells c 5 f) → (∀ c f, o ≠ Obj.cells c 75 f) → W'.heap[k]? = some o
theorem KA.refl (W : World) : KA W W := fun _ _ h _ _ => h
theorem KA.trans {A B C : World} (h : KA A B) (k : KA B C) : KA A C := fun i o hi h1 h2 => k i o (h i o hi h1 h2) h1 h2
theorem KA.of_below {W W' : World} (h : Below W.heap.size W W') : KA W W' := fun k _ hk _ _ => (h.block k (Array.getElem?_eq_some_iff.1 hk).1).trans hk
theorem KA.grown {B : Nat} {n : Nat} {xs : List Value} {v : Value} {W W' : World} (hg : W.grownBy W' v.ownBlock) (ho : W.ownsRowF B 5 1 v n xs) : KA W W' := fun k o hk h1 _ => by
  refine (hg.block k (Array.getElem?_eq_some_iff.1 hk).1 (fun e => ?_)).trans hk
  obtain ⟨-, h4⟩ := ho
  rcases h4 with ⟨rfl, -⟩ | ⟨g, cap, cur, fz, rfl, -, hgg, -⟩
  · simp [Value.ownBlock] at e
  · simp [Value.ownBlock] at e
    subst e
    rw [hgg] at hk
    injection hk with hk
    exact h1 _ _ hk.symm
theorem KA.setCell {W : World} {b i : Nat} {c : Array Value} {f : Nat × Nat} {u : Value} (hb : W.heap[b]? = some (.cells c 75 f)) : KA W (W.setCell ⟨b, i, none⟩ u) := fun k o hk _ h2 => by
  by_cases e : k = b
  · subst e
    rw [hb] at hk
    injection hk with hk
    exact absurd hk.symm (h2 _ _)
  · exact (Below.heap_setCell W ⟨b, i, none⟩ u k e).trans hk
theorem KA.keeps {W W' : World} (h : KA W W') (hs : W.heap.size ≤ W'.heap.size) : KeepsOthers W W' := ⟨hs, fun k o hk ho => h k o hk (fun c f e => by rw [e] at ho; cases ho) (fun c f e => by rw [e] at ho; cases ho)⟩
/-- .. of the rows alone -/
def KT (W W' : World) : Prop := ∀ (k : Nat) (c : Array Value) (t : TypeId) (f : Nat × Nat), W.heap[k]? = some (.cells c t f) → t ≠ 5 → t ≠ 75 → W'.heap[k]? = some (.cells c t f)
theorem KT.trans {A B C : World} (h : KT A B) (k : KT B C) : KT A C := fun i c t f hi h1 h2 => k i c t f (h i c t f hi h1 h2) h1 h2
theorem KT.refl (W : World) : KT W W := fun _ _ _ _ h _ _ => h
theorem KA.rows {W W' : World} (h : KA W W') : KT W W' := fun k c t f hk h1 h2 => h k _ hk (fun _ _ e => by injection e with _ e _; exact h1 e) (fun _ _ e => by injection e with _ e _; exact h2 e)
theorem KT.putObj (W : World) (l : Nat) (o o' : Obj) (hl : W.heap[l]? = some o) (ho : o.isCells = false) : KT W (W.putObj l o') := fun k _ _ _ hk _ _ => by
  have hne : k ≠ l := fun e => by
    subst e
    rw [hk] at hl
    injection hl with hl
    subst hl
    cases ho
  exact (World.putObj_heap_other hne).trans hk

theorem copyCheck_ka (B b : Nat) (bs : List Value) (w : World) (h : Lib.IsBuilderF 75 5 B b bs w) :
    Calls Tryz.prog 74 #[.pointer (some ⟨b, 0, none⟩)] w fun e w' => e = .returned (.tuple #[]) ∧ Lib.BuilderAtF 75 5 B b (.pointer (some ⟨b, 0, none⟩)) bs w' ∧ Below B w w' ∧ KA w w' := by
  rcases h with h | h
  · refine (copyCheck_fresh b w h.cell0 h.shape h.frozen0).mono ?_
    rintro e w' ⟨rfl, rfl⟩
    exact ⟨rfl, h.used _, (Below.refl B w).setCell (p := ⟨b, 0, none⟩) h.1 _, by obtain ⟨_, v, hb, _⟩ := h; exact KA.setCell hb⟩
  · refine (copyCheck_used b w h.cell0).mono ?_
    rintro e w' ⟨rfl, rfl⟩
    exact ⟨rfl, h, Below.refl B _, KA.refl _⟩

set_option maxRecDepth 100000 in
set_option maxHeartbeats 2000000 in
theorem writeString_ka (B b : Nat) (bs : List Value) (t : ByteArray) (w : World) (h : Lib.IsBuilderF 75 5 B b bs w) (hlen : bs.length + t.size ≤ 1000000000) (hBw : B ≤ w.heap.size) :
    Calls Tryz.prog 54 #[.pointer (some ⟨b, 0, none⟩), .string t] w fun e w' => e = .returned (.tuple #[.int .i64 t.size, .nilIface]) ∧ Lib.BuilderAtF 75 5 B b (.pointer (some ⟨b, 0, none⟩)) (bs ++ Lib.strCells t) w' ∧ Below B w w' ∧ KA w w' := by
  obtain ⟨i0, hi, hz0, hz1, hz2⟩ := info_parts extra.infoByte
  go_enter Tryz.func54, Tryz.ntmps54
  go_wp2_with fail
  refine (copyCheck_ka B b bs _ h).mono ?_
  rintro e w1 ⟨rfl, h1, hb1, hk1⟩
  obtain ⟨hB, v, hbk, hown, hne⟩ := h1
  obtain ⟨c0, c1⟩ := cells_two hbk
  go_wp2_with (at_builtin; refine Lib.wpList_append_own_stringF _ rfl _ _ 73 9 rfl B 5 i0 Tryz.underlying73 Tryz.underlying9 hi hz0 hz1 hz2 _ _ _ rfl hown t rfl ?c3 ?c4 ?c5 ?_)
  case c3 => unfold maxLen; omega
  case c4 => omega
  case c5 => have := hb1.size; omega
  intro v' w2 hown' hgrow _
  have hlt : b < w1.heap.size := (Array.getElem?_eq_some_iff.1 hbk).1
  have hb2 : w2.heap[b]? = some (.cells #[.pointer (some ⟨b, 0, none⟩), v] 75 (0, 0)) := by
    rw [hgrow.block b hlt (fun e => hne e.symm)]
    exact hbk
  obtain ⟨d0, d1⟩ := cells_two hb2
  have f1 := frozen_two hb2 1
  obtain ⟨ao, n', cap, rfl⟩ : ∃ ao n' cap, v' = .slice ao n' cap := by
    rcases hown'.2 with ⟨hv, _⟩ | ⟨g, cap, cur, fz, hv, _⟩
    · exact ⟨_, _, _, hv⟩
    · exact ⟨_, _, _, hv⟩
  go_wp2
  go_ret2
  have hka := (hk1.trans (KA.grown hgrow hown)).trans (KA.setCell (i := 1) (u := .slice ao n' cap) hb2)
  refine ⟨rfl, ?_, ?_, hka⟩
  · exact Lib.BuilderAtF.put (T := 75) (e := 5) hB hb2 (bs' := bs ++ Lib.strCells t) (by simpa [Lib.strCells_length] using hown') extra.neB5
  · exact (hb1.grown hgrow (by have := hb1.size; omega) (fun k hk => (hown.lt k hk).1)).setCell (p := ⟨b, 1, none⟩) hB _

set_option maxRecDepth 100000 in
set_option maxHeartbeats 4000000 in
theorem backward_in (l n cap g Bs : Nat) (zs : List Int) (J Jx : List Nat → World → Prop)
    (hY : ∀ (pre : List Nat) (x : Nat) (W : World), J pre W → pre.length < n → YieldAt Fence.wide (100 - 1 - 1) Tryz.prog l #[.int .i64 (x : Int), .int .u32 (zs[x]?.getD 0)] W fun e W' =>
      (e = .returned (.bool true) ∧ J (pre ++ [x]) W' ∧ KT W W') ∨ (e = .returned (.bool false) ∧ Jx (pre ++ [x]) W'))
    (W : World) (hBs : W.heap[Bs]? = some (.cells #[.slice (some ⟨g, 0, none⟩) n cap] 50 (0, 0))) (hg : Blk W g zs) (hn : n ≤ zs.length) (hn6 : n ≤ 1000000) (h0 : J [] W) :
    CallsIn Fence.wide (100 - 1) Tryz.prog 77 #[.func (.yield l) #[] #[], .pointer (some ⟨Bs, 0, none⟩)] W fun e W' => (∃ v, e = .returned v) ∧
      ((∃ ys, ys = backs n n ∧ J ys W') ∨ (∃ pre, True ∧ Jx pre W')) := by
  refine callsIn_of_wp Tryz.func77 rfl trivial ?_ rfl
  simp only [Tryz.ntmps77, List.size_toArray, List.length_cons, List.length_nil, Nat.reduceAdd, Nat.reduceSub, Array.replicate_succ, Array.replicate_zero, List.push_toArray, List.append_toArray, List.nil_append, List.cons_append]
  have hsb := cell_of_row W Bs 0 _ _ _ hBs
  rw [show (#[Value.slice (some ⟨g, 0, none⟩) n cap] : Array Value)[0]? = some (.slice (some ⟨g, 0, none⟩) n cap) from rfl] at hsb
  gi_wp2
  gi_loopw [3] (fun i wr => ∃ k : Nat, k ≤ n ∧ i = .int .i64 (((n - k : Nat) : Int) - 1) ∧ J (backs n k) wr ∧ KT W wr)
    (fun i _ => (intOf i + 1).toNat)
  case atStart => exact ⟨0, Nat.zero_le _, by first | rfl | simp, h0, KT.refl _⟩
  case round =>
    obtain ⟨k, hk, rfl, hJs, hnx⟩ := hrel
    by_cases hlt : k < n
    · have hy' := hY _ (n - 1 - k) wr hJs (by rw [backs_len]; exact hlt)
      obtain ⟨fn, tmps, assign, body, hy, hR⟩ := hy'
      have hb1 : wr.heap[Bs]? = some (.cells #[.slice (some ⟨g, 0, none⟩) n cap] 50 (0, 0)) := hnx _ _ _ _ hBs (by decide) (by decide)
      have hb2 : Blk wr g zs := hnx _ _ _ _ hg (by decide) (by decide)
      have hcx := hb2.cell (n - 1 - k) (by omega)
      rw [List.getD_eq_getElem?_getD] at hcx
      have hi1 : ((n - k : Nat) : Int) - 1 = ((n - 1 - k : Nat) : Int) := by omega
      rw [hi1]
      have hbx := cell_of_row wr Bs 0 _ _ _ hb1
      rw [show (#[Value.slice (some ⟨g, 0, none⟩) n cap] : Array Value)[0]? = some (.slice (some ⟨g, 0, none⟩) n cap) from rfl] at hbx
      clear hb1 hb2
      gi_wp2
      refine hR.mono ?_
      rintro e W3 (⟨rfl, hJ3, hk3⟩ | ⟨rfl, hJx3⟩)
      · have hi2 : (n - 1 - k : Nat) = n - (k + 1) := by omega
        gi_wp2
        go_roundw
        case rel => exact ⟨k + 1, by omega, rfl, by rw [backs_succ]; exact hJ3, hnx.trans hk3⟩
        case measure => simp [intOf]; omega
      · gi_wp2
        refine bodyPost_ret (results_none rfl _ _ _) rfl ?_
        exact ⟨⟨_, rfl⟩, .inr ⟨_, trivial, hJx3⟩⟩
    · obtain rfl : k = n := by omega
      gi_wp2
      go_end0
      exact ⟨⟨_, rfl⟩, .inl ⟨_, rfl, hJs⟩⟩
end Go.Proofs.YthicfkeiggcjjaaGreatDoor

namespace Go.Proofs.YthicfkeiggcjjaaGreatDoor
open Go.RowKit

/-- the slice of length n at block g reads as the number a, and can be written -/
def Owns (w : World) (g n ca a : Nat) : Prop := ∃ L, Blk w g L ∧ Wf L ∧ L.take n = limbs a ∧ n ≤ L.length ∧ L.length = ca ∧ L.length ≤ 1099511627776

theorem Owns.of {w : World} {g i m : Nat} {L : List Int} (h : Blk w g L) (hw : Wf L) (hi : (limbs (num L).toNat).length = i) (hm : L.length = m) (hb : L.length ≤ 1099511627776) : Owns w g i m (num L).toNat := by
  have e := take_tlen hw L.length (Nat.le_refl _)
  rw [← tlen_eq hw, hi, List.take_length] at e
  exact ⟨L, h, hw, e, by rw [← hi, tlen_eq hw]; exact tlen_le _ _, hm, hb⟩

theorem Owns.sl {w : World} {g n ca a : Nat} (h : Owns w g n ca a) : Sl w (some ⟨g, 0, none⟩) n ca (limbs a) := by
  obtain ⟨L, h1, h2, h3, h4, h5, h6⟩ := h
  rw [← h3]
  exact (h1.sl (n := L.length) h2 rfl h6 (Nat.le_of_eq h5)).take n h4

theorem Owns.below {w w' : World} {g n ca a : Nat} (h : Owns w g n ca a) (hb : Below w.heap.size w w') : Owns w' g n ca a := by
  obtain ⟨L, h1, h2⟩ := h
  exact ⟨L, h1.below hb, h2⟩
theorem Owns.lt {w : World} {g n ca a : Nat} (h : Owns w g n ca a) : g < w.heap.size := by
  obtain ⟨L, h1, h2⟩ := h
  exact h1.lt

/-- a number in memory of its own, from block B on, or zero -/
def OwnR (w : World) (B : Nat) (ao : Option Addr) (n ca a : Nat) : Prop := a = 0 ∧ n = 0 ∨ ∃ g, ao = some ⟨g, 0, none⟩ ∧ B ≤ g ∧ Owns w g n ca a

set_option maxRecDepth 100000 in
set_option maxHeartbeats 1000000 in
theorem shiftDown_own (zs : List Int) (s k : Nat) (ao : Option Addr) (n ca : Nat) (w : World) (ha : Sl w ao n ca zs) (hk : k < 32) (hn : n ≤ 1000000000) (hs : s < n) :
    Calls Tryz.prog 112 #[.slice ao n ca, .int .i64 ((s * 32 + k : Nat) : Int)] w fun e w' => ∃ g l cap, e = .returned (.slice (some ⟨g, 0, none⟩) l cap) ∧ Owns w' g l cap (num (zs.drop s) / 2 ^ k).toNat ∧ w.heap.size ≤ g ∧ Below w.heap.size w w' := by
  have hd : ((s * 32 + k : Nat) : Int) / 32 = (s : Int) := by omega
  have hr : ((s * 32 + k : Nat) : Int) % 32 = (k : Int) := by omega
  obtain ⟨x, hx⟩ : ∃ x : Int, ((s * 32 + k : Nat) : Int) = x := ⟨_, rfl⟩
  rw [hx] at hd hr ⊢
  have hx0 : 0 ≤ x := by omega
  have hx1 : x ≤ 100000000000 := by omega
  have HX := Lib.hid hx; clear hx
  have hcap := ha.cap
  have hsd : ∀ ao', (∀ b off, ao = some ⟨b, off, none⟩ → ao' = some ⟨b, off + s, none⟩) → Sl w ao' (n - s) (ca - s) (zs.drop s) := fun ao' h =>
    ⟨by rw [List.length_drop, ha.len], by omega, by omega, ha.wf.drop s, fun h0 => by
      obtain ⟨b, off, e, hc⟩ := ha.cells (by rw [ha.len]; omega)
      refine ⟨b, off + s, h b off e, fun j hj => ?_⟩
      rw [List.length_drop, ha.len] at hj
      have := hc (s + j) (by rw [ha.len]; omega)
      rw [show off + s + j = off + (s + j) by omega, this]
      simp [List.getD, List.getElem?_drop]⟩
  obtain ⟨bb, ob, rfl, hcb⟩ := ha.cells (by rw [ha.len]; omega)
  have hs1 := hsd (some ⟨bb, ob + s, none⟩) (fun b off e => by cases e; rfl)
  clear hsd hcb
  go_enter Tryz.func112, Tryz.ntmps112
  go_wp2_with fail
  refine (clone_any _ _ _ _ _ hs1).mono ?_
  rintro e w1 ⟨rfl, hb1, hw1⟩
  have hsa := ha.cells.stay_below hw1 (Nat.le_refl _)
  generalize hg : w.heap.size = g at *
  have HG := Lib.hid hg; clear hg
  have hal := ha.len
  have HAL := Lib.hid hal; clear hal
  have hwz := ha.wf
  have hm0 : 0 < n - s := by omega
  have hmn : n - s ≤ n := by omega
  have hms : (((n - s : Nat) : Int)) = (n : Int) - s := by omega
  have HMS := Lib.hid hms; clear hms
  generalize hm : n - s = m at *
  have HM := Lib.hid hm; clear hm
  go_wp2
  go_loopw [8, 23] (fun _ i wr => ∃ (j : Nat) (Lj : List Int), j ≤ m ∧ i = .int .i64 j ∧ Down (zs.drop s) Lj m k j ∧ Blk wr g Lj ∧ Only g w1 wr)
    (fun _ i _ => m - (intOf i).toNat)
  case atStart => exact ⟨0, _, Nat.zero_le _, rfl, Down.start (by rw [List.length_drop, HAL.out, HM.out]) (hwz.drop s), hb1, Only.refl g w1⟩
  case round =>
    obtain ⟨j, Lj, hj, rfl, hU, hbk, ho⟩ := hrel
    have hl := hU.1
    have HU := Lib.hid hU; clear hU
    by_cases hlt : j < m
    · have c2 := hbk.cell j (by omega)
      have c3 := hbk.frozen j
      obtain ⟨y, hy⟩ : ∃ y, Lj.getD j 0 = y := ⟨_, rfl⟩
      rw [hy] at c2
      have HY := Lib.hid hy; clear hy
      have hyr := (HU.out.2.1.getD j)
      rw [HY.out] at hyr
      obtain ⟨y0, y1⟩ := hyr
      have HL := Lib.hid hl; clear hl
      by_cases hnx : s + j + 1 < n
      · obtain ⟨b2, o2, e2, hcb⟩ := hsa _ ho (by rw [HAL.out]; omega)
        cases e2
        have c1 := hcb (s + j + 1) (by rw [HAL.out]; omega)
        clear hcb
        obtain ⟨z, hz⟩ : ∃ z, zs.getD (s + j + 1) 0 = z := ⟨_, rfl⟩
        rw [hz] at c1
        have hzr := hwz.getD (s + j + 1)
        rw [hz] at hzr
        have HZ := Lib.hid hz; clear hz
        obtain ⟨z0, z1⟩ := hzr
        go_wp2
        have hb2 := hbk.set j (y / 2 ^ k)
        have ho2 := ho.setCell j (.int .u32 (y / 2 ^ k))
        generalize wr.setCell ⟨g, j, none⟩ (.int .u32 (y / 2 ^ k)) = W2 at *
        obtain ⟨b3, o3, e3, hcb⟩ := hsa _ ho2 (by rw [HAL.out]; omega)
        cases e3
        have c5 := hcb (s + j + 1) (by rw [HAL.out]; omega)
        rw [HZ.out] at c5
        clear hcb c1 c2 c3 hbk ho
        have c6 := hb2.cell j (by simp; rw [HL.out]; omega)
        have hgd : (Lj.set j (y / 2 ^ k)).getD j 0 = y / 2 ^ k := by rw [getD_set _ _ _ _ (by rw [HL.out]; omega), if_pos rfl]
        rw [hgd] at c6
        clear hgd
        have c7 := hb2.frozen j
        go_region
        go_wp2
        go_roundw
        case rel =>
          obtain ⟨t1, t2, t3⟩ := limb_down (z := z) hk y0 y1
          have hyd : (zs.drop s).getD j 0 = y := by rw [← HY.out, getD_of_drop HU.out.2.2.1]
          have hzd : (zs.drop s).getD (j + 1) 0 = z := by rw [← HZ.out]; simp [List.getD, List.getElem?_drop, Nat.add_assoc]
          have st := HU.out.step hlt _ (by rw [hyd, hzd]) ⟨t2, t3⟩
          have hbn := (hb2.set j (bits BinOp.or IntKind.u32 (y / 2 ^ k) (z * 2 ^ (32 - k) % 4294967296))).drew
          rw [t1] at hbn ⊢
          rw [List.set_set] at hbn
          exact ⟨j + 1, _, by omega, by go_num, st, hbn, (ho2.setCell _ _).drew⟩
        case measure => simp [intOf] <;> omega
      · go_wp2
        go_roundw
        case rel =>
          have hyd : (zs.drop s).getD j 0 = y := by rw [← HY.out, getD_of_drop HU.out.2.2.1]
          have hzd : (zs.drop s).getD (j + 1) 0 = 0 := by
            have := HAL.out
            simp only [List.getD, List.getElem?_drop]
            rw [List.getElem?_eq_none (by omega)]; rfl
          have hp : (0 : Int) < 2 ^ k := Int.pow_pos (by omega)
          have a0 : 0 ≤ y / 2 ^ k := Int.ediv_nonneg y0 (by omega)
          have a1 : y / 2 ^ k ≤ y := Int.ediv_le_self _ y0
          have st := HU.out.step hlt (y / 2 ^ k) (by rw [hyd, hzd]; simp) ⟨a0, by omega⟩
          exact ⟨j + 1, _, by omega, by go_num, st, hbk.set _ _, ho.setCell _ _⟩
        case measure => simp [intOf] <;> omega
    · obtain rfl : j = m := by omega
      have HL := Lib.hid hl; clear hl
      go_wp2_with fail
      refine (trim_sl _ _ _ Lj wr (hbk.sl HU.out.2.1 HL.out (by omega) (Nat.le_refl _))).mono ?_
      rintro e w4 ⟨i, rfl, hs4, rfl⟩
      go_wp2
      go_ret
      refine ⟨g, i, _, rfl, ?_, Nat.le_of_eq HG.out, by rw [HG.out]; exact hw1.trans (ho.below (Nat.le_refl _))⟩
      have ow := Owns.of hbk HU.out.2.1 hs4.len HL.out (by rw [HL.out]; omega)
      rw [HU.out.done hk] at ow
      exact ow


theorem shiftDown_own0 (a k : Nat) (ao : Option Addr) (n ca : Nat) (w : World) (ha : Sl w ao n ca (limbs a)) (hk : k < 32) (hn : n ≤ 1000000000) (h0 : 0 < n) :
    Calls Tryz.prog 112 #[.slice ao n ca, .int .i64 (k : Int)] w fun r w' => ∃ g l cap, r = .returned (.slice (some ⟨g, 0, none⟩) l cap) ∧ Owns w' g l cap (a / 2 ^ k) ∧ w.heap.size ≤ g ∧ Below w.heap.size w w' := by
  have h := shiftDown_own (limbs a) 0 k ao n ca w ha hk hn h0
  have e2 : (num ((limbs a).drop 0) / 2 ^ k).toNat = a / 2 ^ k := by
    rw [List.drop_zero, num_limbs]
    have : (a : Int) / 2 ^ k = ((a / 2 ^ k : Nat) : Int) := by rw [Int.natCast_ediv, Int.natCast_pow]; rfl
    rw [this, Int.toNat_natCast]
  rw [e2, Nat.zero_mul, Nat.zero_add] at h
  exact h

end Go.Proofs.YthicfkeiggcjjaaGreatDoor
