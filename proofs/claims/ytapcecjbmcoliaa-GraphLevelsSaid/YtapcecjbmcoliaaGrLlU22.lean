import Derived.Test.YtapcecjbmcoliaaGrLlU21
namespace Go.Proofs.Ytapcecjbmcoliaa
open Go Go.RowKit

/-- but for the block g, what lies below B stays -/
structure Upto (B g : Nat) (w w' : World) : Prop where
  os : w'.os = w.os
  tape : w'.tape = w.tape
  output : w'.output = w.output
  size : w.heap.size ≤ w'.heap.size
  blk : ∀ k, k < B → k ≠ g → w'.heap[k]? = w.heap[k]?
theorem Upto.refl (B g : Nat) (w : World) : Upto B g w w := ⟨rfl, rfl, rfl, Nat.le_refl _, fun _ _ _ => rfl⟩
theorem Upto.trans {B g : Nat} {u v w : World} (h : Upto B g u v) (k : Upto B g v w) : Upto B g u w := ⟨k.os.trans h.os, k.tape.trans h.tape, k.output.trans h.output, Nat.le_trans h.size k.size, fun x h1 h2 => (k.blk x h1 h2).trans (h.blk x h1 h2)⟩
theorem Upto.mono {B C g : Nat} {u v : World} (h : Upto C g u v) (hb : B ≤ C) : Upto B g u v := ⟨h.os, h.tape, h.output, h.size, fun x h1 h2 => h.blk x (by omega) h2⟩
theorem Upto.below {B C g : Nat} {u v : World} (h : Below C u v) (hb : B ≤ C) : Upto B g u v := ⟨h.os, h.tape, h.output, h.size, fun _ h1 _ => h.block _ (by omega)⟩
theorem Upto.only {B g : Nat} {u v : World} (h : Only g u v) : Upto B g u v := ⟨(h.below (Nat.le_refl g)).os, (h.below (Nat.le_refl g)).tape, (h.below (Nat.le_refl g)).output, by rw [h.size]; exact Nat.le_refl _, fun _ _ h1 => h.block _ h1⟩
/-- a block that is made behind C -/
theorem Upto.to {B C g : Nat} {u v : World} (h : Upto B g u v) (h1 : C ≤ g) (h2 : C ≤ B) : Below C u v := ⟨h.os, h.tape, h.output, h.size, fun k hk => h.blk k (by omega) (by omega)⟩

/-- the block g holds these bools -/
def BoB (w : World) (g : Nat) (l : List Bool) : Prop := VBlk w g (l.map Value.bool).toArray 4
theorem BoB.c {w : World} {g : Nat} {l : List Bool} (h : BoB w g l) {j : Nat} (hj : j < l.length) : w.cell? ⟨g, j, none⟩ = some (.bool (l.getD j false)) := by
  rw [VBlk.c h j]
  simp [List.getD, hj]
theorem BoB.f {w : World} {g : Nat} {l : List Bool} (h : BoB w g l) (o : Nat) : w.frozen? ⟨g, o, none⟩ = false := VBlk.f h o
theorem BoB.lt {w : World} {g : Nat} {l : List Bool} (h : BoB w g l) : g < w.heap.size := VBlk.lt h
theorem BoB.same {w w' : World} {g : Nat} {l : List Bool} (h : BoB w g l) (hb : w'.heap[g]? = w.heap[g]?) : BoB w' g l := by
  unfold BoB VBlk at h ⊢
  rw [hb]; exact h
theorem BoB.below {w w' : World} {g B : Nat} {l : List Bool} (h : BoB w g l) (hb : Below B w w') (hg : g < B) : BoB w' g l := h.same (hb.block g hg)
theorem BoB.set {w : World} {g : Nat} {l : List Bool} (h : BoB w g l) {j : Nat} (x : Bool) : BoB (w.setCell ⟨g, j, none⟩ (.bool x)) g (l.set j x) := by
  have := VBlk.set h j (.bool x)
  have e : (l.map Value.bool).toArray.setIfInBounds j (.bool x) = ((l.set j x).map Value.bool).toArray := by
    rw [List.setIfInBounds_toArray, List.map_set]
  unfold BoB
  rwa [e] at this
theorem Try.infoBool : (Try.prog.info? 4).map (fun i => (i.zero, i.size, i.bytes)) = some (some (.bool false), 1, 1) := by kernel_rfl
theorem Try.infoRowBo : (Try.prog.info? 53).map (fun i => (i.zero, i.size, i.bytes)) = some (some (.slice none 0 0), 1, 24) := by kernel_rfl
set_option maxRecDepth 100000 in
theorem make_bools (n : Nat) (hn : n ≤ 1000000) : ∃ O, (∀ w, (Instr.makeSlice 53 (.int .i64 (n : Int)) (.int .i64 (n : Int))).run Try.prog w = .ok (.slice (some ⟨w.heap.size, 0, none⟩) n n) (w.alloc O)) ∧ ∀ w : World, BoB (w.alloc O) w.heap.size (List.replicate n false) := by
  obtain ⟨i0, hi, hz0, hz1, hz2⟩ := info_parts Try.infoBool
  have h := fun w => run_make (P := Try.prog) w 53 4 i0 (.bool false) Try.underlying53 hi hz0 .i64 .i64 (n : Int) (n : Int) (by omega) (by omega) (by rw [hz2]; omega) (by omega)
  simp only [Int.toNat_natCast] at h
  refine ⟨_, h, fun w => ?_⟩
  unfold BoB VBlk
  rw [heap_alloc_new, hz1, Nat.mul_one]
  congr 2
  apply Array.ext'
  show (madeCells #[Value.bool false] _).toList = _
  rw [toList_madeCells_one]
  simp

/-- a table of bools, read: the row i lies in some block -/
structure Tab (w : World) (ao : Option Addr) (n cap c : Nat) (t : List (List Bool)) : Prop where
  len : t.length = n
  cap : n ≤ cap
  wid : ∀ i, i < n → (t.getD i []).length = c
  rows : 0 < n → ∃ b off, ao = some ⟨b, off, none⟩ ∧ ∀ i, i < n → ∃ g ci, w.cell? ⟨b, off + i, none⟩ = some (.slice (some ⟨g, 0, none⟩) c ci) ∧ c ≤ ci ∧ BoB w g (t.getD i [])
theorem Tab.below {w w' : World} {ao : Option Addr} {n cap c : Nat} {t : List (List Bool)} (h : Tab w ao n cap c t) (hb : Ext w w') : Tab w' ao n cap c t :=
  ⟨h.len, h.cap, h.wid, fun h0 => by
    obtain ⟨b, off, e, hc⟩ := h.rows h0
    refine ⟨b, off, e, fun i hi => ?_⟩
    obtain ⟨g, ci, h1, h2, h3⟩ := hc i hi
    exact ⟨g, ci, by rw [hb.cell (p := ⟨b, off + i, none⟩) (lt_of_cell h1)]; exact h1, h2, h3.below hb h3.lt⟩⟩

/-- rows of bools that a call makes for itself, in a list that it makes by appending; gs: their blocks -/
structure TS (w : World) (B c : Nat) (v : Value) (gs : List Nat) (t : List (List Bool)) : Prop where
  own : w.ownsRow B 53 1 v gs.length (gs.map fun g => Value.slice (some ⟨g, 0, none⟩) c c)
  len : t.length = gs.length
  row : ∀ i, i < gs.length → B ≤ gs.getD i 0 ∧ BoB w (gs.getD i 0) (t.getD i []) ∧ (t.getD i []).length = c
  ne : ∀ i j, i < gs.length → j < gs.length → gs.getD i 0 = gs.getD j 0 → i = j
  nb : ∀ i, i < gs.length → v.ownBlock ≠ some (gs.getD i 0)
theorem TS.nil (w : World) (B c : Nat) : TS w B c (.slice none 0 0) [] [] := ⟨World.ownsRow_nil w B _ _, rfl, fun _ h => absurd h (Nat.not_lt_zero _), fun _ _ h => absurd h (Nat.not_lt_zero _), fun _ h => absurd h (Nat.not_lt_zero _)⟩
theorem TS.far {w w' : World} {B c : Nat} {v : Value} {gs : List Nat} {t : List (List Bool)} (h : TS w B c v gs t) (hv : ∀ k, v.ownBlock = some k → w'.heap[k]? = w.heap[k]?) (hr : ∀ i, i < gs.length → w'.heap[gs.getD i 0]? = w.heap[gs.getD i 0]?) : TS w' B c v gs t := by
  refine ⟨?_, h.len, fun i hi => ⟨(h.row i hi).1, (h.row i hi).2.1.same (hr i hi), (h.row i hi).2.2⟩, h.ne, h.nb⟩
  obtain ⟨h1, h2⟩ := h.own
  refine ⟨h1, ?_⟩
  rcases h2 with h2 | ⟨g, cap, cur, rfl, hbb, hg, r⟩
  · exact .inl h2
  · exact .inr ⟨g, cap, cur, rfl, hbb, by rw [hv g rfl]; exact hg, r⟩
theorem TS.below {w w' : World} {B c : Nat} {v : Value} {gs : List Nat} {t : List (List Bool)} (h : TS w B c v gs t) (hb : Ext w w') : TS w' B c v gs t :=
  h.far (fun k hk => hb.block k (World.ownsRow.lt h.own k hk).2) (fun i hi => hb.block _ (h.row i hi).2.1.lt)
theorem TS.drew {w : World} {B c : Nat} {v : Value} {gs : List Nat} {t : List (List Bool)} (h : TS w B c v gs t) : TS w.drew B c v gs t := h.far (fun _ _ => rfl) (fun _ _ => rfl)
theorem TS.slE {w : World} {B c : Nat} {v : Value} {gs : List Nat} {t : List (List Bool)} (h : TS w B c v gs t) : ∃ ao cap, v = .slice ao gs.length cap ∧ gs.length ≤ cap := by
  obtain ⟨h1, h2⟩ := h.own
  rcases h2 with ⟨rfl, h0⟩ | ⟨g, cap, cur, rfl, hbb, hg, hn, r⟩
  · exact ⟨none, 0, by rw [h0], by omega⟩
  · exact ⟨_, cap, rfl, hn⟩
theorem TS.form {w : World} {B c : Nat} {v : Value} {gs : List Nat} {t : List (List Bool)} (h : TS w B c v gs t) (h0 : 0 < gs.length) : ∃ b cap, v = .slice (some ⟨b, 0, none⟩) gs.length cap ∧ B ≤ b ∧ b < w.heap.size ∧ gs.length ≤ cap ∧ (∀ i, i < gs.length → w.cell? ⟨b, i, none⟩ = some (.slice (some ⟨gs.getD i 0, 0, none⟩) c c)) := by
  obtain ⟨h1, h2⟩ := h.own
  rcases h2 with ⟨rfl, hl⟩ | ⟨g, cap, cur, rfl, hb, hg, hn, hm, hs, ht⟩
  · omega
  · refine ⟨g, cap, rfl, hb, (Array.getElem?_eq_some_iff.1 hg).1, hn, fun j hj => ?_⟩
    rw [cell_of_row w g j _ _ _ hg]
    have : (cur.toList.take (gs.length * 1))[j]? = (gs.map fun g => Value.slice (some ⟨g, 0, none⟩) c c)[j]? := by rw [ht]
    rw [List.getElem?_take, if_pos (by omega)] at this
    simp only [Array.getElem?_toList] at this
    rw [this]
    simp [List.getD, hj]
/-- read -/
theorem TS.tab {w : World} {B c : Nat} {v : Value} {gs : List Nat} {t : List (List Bool)} (h : TS w B c v gs t) : ∃ ao cap, v = .slice ao t.length cap ∧ Tab w ao t.length cap c t := by
  rw [h.len]
  by_cases h0 : 0 < gs.length
  · obtain ⟨b, cap, e, _, _, h1, h2⟩ := h.form h0
    exact ⟨_, cap, e, h.len, h1, fun i hi => (h.row i hi).2.2, fun _ => ⟨b, 0, rfl, fun i hi => ⟨_, c, by rw [Nat.zero_add]; exact h2 i hi, Nat.le_refl _, (h.row i hi).2.1⟩⟩⟩
  · obtain ⟨ao, cap, e, h1⟩ := h.slE
    exact ⟨ao, cap, e, h.len, h1, fun i hi => absurd hi (by omega), fun h2 => absurd h2 h0⟩
/-- an entry set -/
theorem TS.put {w : World} {B c : Nat} {v : Value} {gs : List Nat} {t : List (List Bool)} (h : TS w B c v gs t) {i j : Nat} (hi : i < gs.length) (x : Bool) :
    TS (w.setCell ⟨gs.getD i 0, j, none⟩ (.bool x)) B c v gs (t.set i ((t.getD i []).set j x)) := by
  have hset : ∀ k, k ≠ gs.getD i 0 → (w.setCell ⟨gs.getD i 0, j, none⟩ (.bool x)).heap[k]? = w.heap[k]? := fun k hk => (only_set1 w (gs.getD i 0) j (.bool x)).block k hk
  have hm : i < t.length := by rw [h.len]; exact hi
  refine ⟨?_, by rw [List.length_set]; exact h.len, fun k hk => ?_, h.ne, h.nb⟩
  · obtain ⟨h1, h2⟩ := h.own
    refine ⟨h1, ?_⟩
    rcases h2 with h2 | ⟨g, cap, cur, rfl, hbb, hg, r⟩
    · exact .inl h2
    · exact .inr ⟨g, cap, cur, rfl, hbb, by rw [hset g (fun e => h.nb i hi (by rw [← e]; rfl))]; exact hg, r⟩
  · obtain ⟨r1, r2, r3⟩ := h.row k hk
    refine ⟨r1, ?_⟩
    by_cases hki : i = k
    · subst hki
      rw [set_at hm]
      exact ⟨r2.set x, by rw [List.length_set]; exact r3⟩
    · rw [set_off hki]
      exact ⟨r2.same (hset _ (fun e => hki (h.ne i k hi hk e.symm))), r3⟩

/-- a row more: the row lies in a block g that was made behind all that the table has -/
theorem wpList_append_ts (w0 : World) {ops : Array Oper} {rest : List Oper} {o : Oper} {a : Act} {Q : Exit → Act → World → Prop} (hgd : o.guard = none) (s x : Operand)
    (ho : o.op = .call { callee := .builtin .append, args := #[s, x], argTypes := #[52, 52] })
    (B c : Nat) (v : Value) (gs : List Nat) (t : List (List Bool)) (g : Nat) (l : List Bool) (hs : a.eval s = v) (hx : a.eval x = .slice (some ⟨w0.heap.size, 0, none⟩) 1 1) (h : TS w0 B c v gs t) (hy : BoB w0 g l) (hl : l.length = c)
    (hfar : v.ownBlock ≠ some g ∧ ∀ i, i < gs.length → gs.getD i 0 ≠ g) (hBg : B ≤ g) (hB : B ≤ w0.heap.size) (hL : gs.length ≤ 1000000)
    (K : ∀ v' w', TS w' B c v' (gs ++ [g]) (t ++ [l]) → Below B w0 w' → wpList Try.prog ops Q rest (a.put o.dst v') w') :
    wpList Try.prog ops Q (o :: rest) a (w0.alloc (.cells #[.slice (some ⟨g, 0, none⟩) c c] 53)) := by
  obtain ⟨i0, hi, hz0, hz1, hz2⟩ := info_parts Try.infoRowBo
  have hlt1 := fun k hk => World.ownsRow.lt h.own k hk
  refine wpList_append_lies _ hgd s x 52 ho B 53 i0 (.slice none 0 0) 1 24 Try.underlying52 hi hz0 hz1 hz2 rfl (by decide) v gs.length _ hs (World.ownsRow.alloc h.own _) ⟨w0.heap.size, 0, none⟩ 1 1 [.slice (some ⟨g, 0, none⟩) c c] hx rfl (cell_one_new _ _ _) ?_ (by decide) (by unfold maxLen; omega) (by omega) (by simp; omega) (w0.heap.size + 1) (by simp) ?_
  · intro u hu; rw [List.mem_singleton] at hu; subst hu; rfl
  · intro g' cap w' r1 r2 r3 r4
    have hblk : ∀ k, k < w0.heap.size → v.ownBlock ≠ some k → w'.heap[k]? = w0.heap[k]? := fun k hk hne => by
      rw [r2.block k (by simp; omega) (fun e => hne e.symm), Below.heap_alloc _ _ _ hk]
    have hg' : ∀ k, k < w0.heap.size → v.ownBlock ≠ some k → Value.ownBlock (.slice (some ⟨g', 0, none⟩) (gs.length + 1) cap) ≠ some k := fun k hk hne e => by
      have e2 : g' = k := by simpa [Value.ownBlock] using e
      subst e2
      rcases r3 with r3 | r3
      · exact hne r3
      · omega
    have hln : (gs ++ [g]).length = gs.length + 1 := by simp
    have eM : (t ++ [l]).getD gs.length [] = l := by rw [← h.len]; exact getD_end
    refine K _ w' ⟨by rw [hln, List.map_append]; exact r1, by simp [h.len], fun i hi2 => ?_, fun i j hi2 hj2 e1 => ?_, fun i hi2 => ?_⟩ ?_
    · rw [hln] at hi2
      by_cases hl2 : i < gs.length
      · rw [getD_app hl2, getD_app (by rw [h.len]; exact hl2)]
        obtain ⟨q1, q2, q3⟩ := h.row i hl2
        exact ⟨q1, q2.same (hblk _ q2.lt (h.nb i hl2)), q3⟩
      · obtain rfl : gs.length = i := by omega
        rw [getD_end, eM]
        exact ⟨hBg, hy.same (hblk _ hy.lt hfar.1), hl⟩
    · rw [hln] at hi2 hj2
      by_cases hl2 : i < gs.length
      · rw [getD_app hl2] at e1
        by_cases hl3 : j < gs.length
        · rw [getD_app hl3] at e1
          exact h.ne i j hl2 hl3 e1
        · obtain rfl : gs.length = j := by omega
          rw [getD_end] at e1
          exact absurd e1 (hfar.2 i hl2)
      · obtain rfl : gs.length = i := by omega
        rw [getD_end] at e1
        by_cases hl3 : j < gs.length
        · rw [getD_app hl3] at e1
          exact absurd e1.symm (hfar.2 j hl3)
        · omega
    · rw [hln] at hi2
      by_cases hl2 : i < gs.length
      · rw [getD_app hl2]
        exact hg' _ (h.row i hl2).2.1.lt (h.nb i hl2)
      · obtain rfl : gs.length = i := by omega
        rw [getD_end]
        exact hg' _ hy.lt hfar.1
    · refine ((Below.refl B w0).alloc hB _).grown r2 (by simp; omega) ?_
      intro k hk
      exact (hlt1 k hk).1
end Go.Proofs.Ytapcecjbmcoliaa
