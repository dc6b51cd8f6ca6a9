import Derived.Test.YtkomhemjodbkpaaDoorTxOrdU30
import Derived.Test.YtkomhemjodbkpaaDoorTxOrdU31
namespace Go.Proofs.YtkomhemjodbkpaaDoor
open Go Go.RowKit Go.Shelf
attribute [local go_sem] Oper.semAt_some

/-- whatever is neither a row of bytes nor a builder lies as it lay -/
def KA (W W' : World) : Prop := ∀ (k : Nat) (o : Obj), W.heap[k]? = some o → (∀ c f, o ≠ Obj.cells c 5 f) → (∀ c f, o ≠ Obj.cells c 54 f) → W'.heap[k]? = some o
theorem KA.refl (W : World) : KA W W := fun _ _ h _ _ => h
theorem KA.trans {A B C : World} (h : KA A B) (k : KA B C) : KA A C := fun i o hi h1 h2 => k i o (h i o hi h1 h2) h1 h2
theorem KA.of_below {W W' : World} (h : Below W.heap.size W W') : KA W W' := fun k _ hk _ _ => (h.block k (Array.getElem?_eq_some_iff.1 hk).1).trans hk
theorem KA.grown {B : Nat} {n : Nat} {xs : List Value} {v : Value} {W W' : World} (hg : W.grownBy W' v.ownBlock) (ho : W.ownsRowF B 5 1 v n xs) : KA W W' := fun k o hk h1 _ => by
  refine (hg.block k (Array.getElem?_eq_some_iff.1 hk).1 (fun e => ?_)).trans hk
  obtain ⟨-, h4⟩ := ho
  rcases h4 with ⟨rfl, -⟩ | ⟨g, cap, cur, fz, rfl, -, hgg, -⟩
  · simp [Value.ownBlock] at e
  · simp [Value.ownBlock] at e
    subst e
    rw [hgg] at hk
    injection hk with hk
    exact h1 _ _ hk.symm
theorem KA.setCell {W : World} {b i : Nat} {c : Array Value} {f : Nat × Nat} {u : Value} (hb : W.heap[b]? = some (.cells c 54 f)) : KA W (W.setCell ⟨b, i, none⟩ u) := fun k o hk _ h2 => by
  by_cases e : k = b
  · subst e
    rw [hb] at hk
    injection hk with hk
    exact absurd hk.symm (h2 _ _)
  · exact (Below.heap_setCell W ⟨b, i, none⟩ u k e).trans hk
theorem KA.keeps {W W' : World} (h : KA W W') (hs : W.heap.size ≤ W'.heap.size) : KeepsOthers W W' := ⟨hs, fun k o hk ho => h k o hk (fun c f e => by rw [e] at ho; cases ho) (fun c f e => by rw [e] at ho; cases ho)⟩
/-- .. of the rows alone -/
def KT (W W' : World) : Prop := ∀ (k : Nat) (c : Array Value) (t : TypeId) (f : Nat × Nat), W.heap[k]? = some (.cells c t f) → t ≠ 5 → t ≠ 54 → W'.heap[k]? = some (.cells c t f)
theorem KT.trans {A B C : World} (h : KT A B) (k : KT B C) : KT A C := fun i c t f hi h1 h2 => k i c t f (h i c t f hi h1 h2) h1 h2
theorem KT.refl (W : World) : KT W W := fun _ _ _ _ h _ _ => h
theorem KA.rows {W W' : World} (h : KA W W') : KT W W' := fun k c t f hk h1 h2 => h k _ hk (fun _ _ e => by injection e with _ e _; exact h1 e) (fun _ _ e => by injection e with _ e _; exact h2 e)
theorem KT.putObj (W : World) (l : Nat) (o o' : Obj) (hl : W.heap[l]? = some o) (ho : o.isCells = false) : KT W (W.putObj l o') := fun k _ _ _ hk _ _ => by
  have hne : k ≠ l := fun e => by
    subst e
    rw [hk] at hl
    injection hl with hl
    subst hl
    cases ho
  exact (World.putObj_heap_other hne).trans hk

theorem copyCheck_ka (B b : Nat) (bs : List Value) (w : World) (h : Lib.IsBuilderF 54 5 B b bs w) :
    Calls Tryd.prog 46 #[.pointer (some ⟨b, 0, none⟩)] w fun e w' => e = .returned (.tuple #[]) ∧ Lib.BuilderAtF 54 5 B b (.pointer (some ⟨b, 0, none⟩)) bs w' ∧ Below B w w' ∧ KA w w' := by
  rcases h with h | h
  · refine (copyCheck_fresh b w h.cell0 h.shape h.frozen0).mono ?_
    rintro e w' ⟨rfl, rfl⟩
    exact ⟨rfl, h.used _, (Below.refl B w).setCell (p := ⟨b, 0, none⟩) h.1 _, by obtain ⟨_, v, hb, _⟩ := h; exact KA.setCell hb⟩
  · refine (copyCheck_used b w h.cell0).mono ?_
    rintro e w' ⟨rfl, rfl⟩
    exact ⟨rfl, h, Below.refl B _, KA.refl _⟩

set_option maxRecDepth 100000 in
set_option maxHeartbeats 2000000 in
theorem writeString_ka (B b : Nat) (bs : List Value) (t : ByteArray) (w : World) (h : Lib.IsBuilderF 54 5 B b bs w) (hlen : bs.length + t.size ≤ 1000000000) (hBw : B ≤ w.heap.size) :
    Calls Tryd.prog 29 #[.pointer (some ⟨b, 0, none⟩), .string t] w fun e w' => e = .returned (.tuple #[.int .i64 t.size, .nilIface]) ∧ Lib.BuilderAtF 54 5 B b (.pointer (some ⟨b, 0, none⟩)) (bs ++ Lib.strCells t) w' ∧ Below B w w' ∧ KA w w' := by
  obtain ⟨i0, hi, hz0, hz1, hz2⟩ := info_parts extra.infoByte
  go_enter Tryd.func29, Tryd.ntmps29
  go_wp2_with fail
  refine (copyCheck_ka B b bs _ h).mono ?_
  rintro e w1 ⟨rfl, h1, hb1, hk1⟩
  obtain ⟨hB, v, hbk, hown, hne⟩ := h1
  obtain ⟨c0, c1⟩ := cells_two hbk
  go_wp2_with (at_builtin; refine Lib.wpList_append_own_stringF _ rfl _ _ 52 9 rfl B 5 i0 Tryd.underlying52 Tryd.underlying9 hi hz0 hz1 hz2 _ _ _ rfl hown t rfl ?c3 ?c4 ?c5 ?_)
  case c3 => unfold maxLen; omega
  case c4 => omega
  case c5 => have := hb1.size; omega
  intro v' w2 hown' hgrow _
  have hlt : b < w1.heap.size := (Array.getElem?_eq_some_iff.1 hbk).1
  have hb2 : w2.heap[b]? = some (.cells #[.pointer (some ⟨b, 0, none⟩), v] 54 (0, 0)) := by
    rw [hgrow.block b hlt (fun e => hne e.symm)]
    exact hbk
  obtain ⟨d0, d1⟩ := cells_two hb2
  have f1 := frozen_two hb2 1
  obtain ⟨ao, n', cap, rfl⟩ : ∃ ao n' cap, v' = .slice ao n' cap := by
    rcases hown'.2 with ⟨hv, _⟩ | ⟨g, cap, cur, fz, hv, _⟩
    · exact ⟨_, _, _, hv⟩
    · exact ⟨_, _, _, hv⟩
  go_wp2
  go_ret2
  have hka := (hk1.trans (KA.grown hgrow hown)).trans (KA.setCell (i := 1) (u := .slice ao n' cap) hb2)
  refine ⟨rfl, ?_, ?_, hka⟩
  · exact Lib.BuilderAtF.put (T := 54) (e := 5) hB hb2 (bs' := bs ++ Lib.strCells t) (by simpa [Lib.strCells_length] using hown') extra.neB5
  · exact (hb1.grown hgrow (by have := hb1.size; omega) (fun k hk => (hown.lt k hk).1)).setCell (p := ⟨b, 1, none⟩) hB _

set_option maxRecDepth 100000 in
set_option maxHeartbeats 4000000 in
theorem backward_in (l n cap g Bs : Nat) (zs : List Int) (J Jx : List Nat → World → Prop)
    (hY : ∀ (pre : List Nat) (x : Nat) (W : World), J pre W → pre.length < n → YieldAt Fence.wide (100 - 1 - 1) Tryd.prog l #[.int .i64 (x : Int), .int .u32 (zs[x]?.getD 0)] W fun e W' =>
      (e = .returned (.bool true) ∧ J (pre ++ [x]) W' ∧ KT W W') ∨ (e = .returned (.bool false) ∧ Jx (pre ++ [x]) W'))
    (W : World) (hBs : W.heap[Bs]? = some (.cells #[.slice (some ⟨g, 0, none⟩) n cap] 22 (0, 0))) (hg : Blk W g zs) (hn : n ≤ zs.length) (hn6 : n ≤ 1000000) (h0 : J [] W) :
    CallsIn Fence.wide (100 - 1) Tryd.prog 49 #[.func (.yield l) #[] #[], .pointer (some ⟨Bs, 0, none⟩)] W fun e W' => (∃ v, e = .returned v) ∧
      ((∃ ys, ys = backs n n ∧ J ys W') ∨ (∃ pre, True ∧ Jx pre W')) := by
  refine callsIn_of_wp Tryd.func49 rfl trivial ?_ rfl
  simp only [Tryd.ntmps49, List.size_toArray, List.length_cons, List.length_nil, Nat.reduceAdd, Nat.reduceSub, Array.replicate_succ, Array.replicate_zero, List.push_toArray, List.append_toArray, List.nil_append, List.cons_append]
  have hsb := cell_of_row W Bs 0 _ _ _ hBs
  rw [show (#[Value.slice (some ⟨g, 0, none⟩) n cap] : Array Value)[0]? = some (.slice (some ⟨g, 0, none⟩) n cap) from rfl] at hsb
  gi_wp2
  gi_loopw [3] (fun i wr => ∃ k : Nat, k ≤ n ∧ i = .int .i64 (((n - k : Nat) : Int) - 1) ∧ J (backs n k) wr ∧ KT W wr)
    (fun i _ => (intOf i + 1).toNat)
  case atStart => exact ⟨0, Nat.zero_le _, by first | rfl | simp, h0, KT.refl _⟩
  case round =>
    obtain ⟨k, hk, rfl, hJs, hnx⟩ := hrel
    by_cases hlt : k < n
    · have hy' := hY _ (n - 1 - k) wr hJs (by rw [backs_len]; exact hlt)
      obtain ⟨fn, tmps, assign, body, hy, hR⟩ := hy'
      have hb1 : wr.heap[Bs]? = some (.cells #[.slice (some ⟨g, 0, none⟩) n cap] 22 (0, 0)) := hnx _ _ _ _ hBs (by decide) (by decide)
      have hb2 : Blk wr g zs := hnx _ _ _ _ hg (by decide) (by decide)
      have hcx := hb2.cell (n - 1 - k) (by omega)
      rw [List.getD_eq_getElem?_getD] at hcx
      have hi1 : ((n - k : Nat) : Int) - 1 = ((n - 1 - k : Nat) : Int) := by omega
      rw [hi1]
      have hbx := cell_of_row wr Bs 0 _ _ _ hb1
      rw [show (#[Value.slice (some ⟨g, 0, none⟩) n cap] : Array Value)[0]? = some (.slice (some ⟨g, 0, none⟩) n cap) from rfl] at hbx
      clear hb1 hb2
      gi_wp2
      refine hR.mono ?_
      rintro e W3 (⟨rfl, hJ3, hk3⟩ | ⟨rfl, hJx3⟩)
      · have hi2 : (n - 1 - k : Nat) = n - (k + 1) := by omega
        gi_wp2
        go_roundw
        case rel => exact ⟨k + 1, by omega, rfl, by rw [backs_succ]; exact hJ3, hnx.trans hk3⟩
        case measure => simp [intOf]; omega
      · gi_wp2
        refine bodyPost_ret (results_none rfl _ _ _) rfl ?_
        exact ⟨⟨_, rfl⟩, .inr ⟨_, trivial, hJx3⟩⟩
    · obtain rfl : k = n := by omega
      gi_wp2
      go_end0
      exact ⟨⟨_, rfl⟩, .inl ⟨_, rfl, hJs⟩⟩
end Go.Proofs.YtkomhemjodbkpaaDoor
