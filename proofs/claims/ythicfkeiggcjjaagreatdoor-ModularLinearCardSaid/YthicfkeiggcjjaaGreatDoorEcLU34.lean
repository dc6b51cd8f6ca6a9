import Derived.Test.YthicfkeiggcjjaaGreatDoorEcLU27
import Derived.Test.YthicfkeiggcjjaaGreatDoorEcLU32
import Derived.Test.YthicfkeiggcjjaaGreatDoorEcLU31
import Derived.Deep.CutRange
namespace Go.Proofs.YthicfkeiggcjjaaGreatDoor
open Go Go.RowKit

/-- one more column -/
def wideM (n : Nat) (M : List (List Int)) (bs : List Int) : List (List Int) := (List.range n).map fun i => M.getD i [] ++ [bs.getD i 0]
theorem wide_len (n : Nat) (M : List (List Int)) (bs : List Int) : (wideM n M bs).length = n := by simp [wideM]
theorem wide_get {n i : Nat} (M : List (List Int)) (bs : List Int) (h : i < n) : (wideM n M bs).getD i [] = M.getD i [] ++ [bs.getD i 0] := by simp [wideM, List.getD, h]
theorem wide_row {n : Nat} {M : List (List Int)} (bs : List Int) (hr : ∀ i, i < n → (M.getD i []).length = n) : ∀ i, i < n → ((wideM n M bs).getD i []).length = n + 1 := fun i hi => by
  rw [wide_get M bs hi, List.length_append, hr i hi]; rfl
theorem resM_get {p : Int} {M : List (List Int)} {i : Nat} : (resM p M).getD i [] = resRow p (M.getD i []) := by
  by_cases h : i < M.length
  · simp [resM, List.getD, h]
  · simp [resM, List.getD, h, resRow]
theorem wide_cut {p : Int} {n : Nat} {M : List (List Int)} (bs : List Int) (hl : M.length = n) (hr : ∀ i, i < n → (M.getD i []).length = n) : cutM n (resM p (wideM n M bs)) = resM p M := by
  refine list_same [] (by rw [cut_len]; unfold resM; rw [List.length_map, List.length_map, wide_len, hl]) fun i hi => ?_
  have hi' : i < n := by rw [cut_len] at hi; unfold resM at hi; rw [List.length_map, wide_len] at hi; exact hi
  rw [cut_get, resM_get, resM_get, wide_get M bs hi']
  unfold resRow
  rw [List.map_append, List.take_append_of_le_length (by rw [List.length_map, hr i hi']; exact Nat.le_refl _), List.take_of_length_le (by rw [List.length_map, hr i hi']; exact Nat.le_refl _)]
theorem wide_reduce {p : Int} {n : Nat} {M : List (List Int)} (bs : List Int) (hl : M.length = n) (hr : ∀ i, i < n → (M.getD i []).length = n) :
    (reduceE p n 0 ⟨resM p M, [], 1⟩).L = (reduceE p n 0 ⟨resM p (wideM n M bs), [], 1⟩).L := by
  have h := cut_reduce (p := p) (n := n) n 0 ⟨resM p (wideM n M bs), [], 1⟩ (by omega)
  have e : cutE n ⟨resM p (wideM n M bs), [], 1⟩ = ⟨resM p M, [], 1⟩ := by
    unfold cutE
    simp only
    rw [wide_cut bs hl hr]
  rw [e] at h
  rw [h]
  rfl
theorem wide_width {n : Nat} {M : List (List Int)} (bs : List Int) (hr : ∀ i, i < n → (M.getD i []).length = n) (h0 : 0 < n) : widthM (wideM n M bs) = n + 1 := wide_row bs hr 0 h0
/-- the solution in the last column -/
def solL (n : Nat) (S : Ech) : List Int := (List.range n).map fun i => (S.M.getD i []).getD n 0
theorem sol_len (n : Nat) (S : Ech) : (solL n S).length = n := by simp [solL]
theorem sol_take {n i : Nat} {S : Ech} (h : i < n) : (solL n S).take (i + 1) = (solL n S).take i ++ [(S.M.getD i []).getD n 0] := by
  rw [List.take_succ_eq_append_getElem (by rw [sol_len]; exact h)]
  simp [solL]
theorem sol_mix (n : Nat) (S : Ech) : mixL (fun i => (S.M.getD i []).getD n 0) (List.replicate n 0) 0 n = solL n S := by
  have := mix_all (fun i => (S.M.getD i []).getD n 0) (List.replicate n (0 : Int)) 0
  rw [List.length_replicate] at this
  exact this

/-- a row that grows in its place -/
theorem RS.put {w0 w1 : World} {B b n cap i : Nat} {rs : List Value} {M : List (List Int)} {y : Value} {l : List Int} (h : RS w0 B (.slice (some ⟨b, 0, none⟩) n cap) rs M) (hi : i < rs.length) (hy : OZ w1 B y l)
    (hblk : ∀ k, k < w0.heap.size → (rs.getD i nilV).ownBlock ≠ some k → w1.heap[k]? = w0.heap[k]?) (hyb : ∀ k, y.ownBlock = some k → (rs.getD i nilV).ownBlock = some k ∨ w0.heap.size ≤ k) :
    RS (w1.setCell ⟨b, i, none⟩ y) B (.slice (some ⟨b, 0, none⟩) n cap) (rs.set i y) (M.set i l) := by
  have hm : i < M.length := by rw [h.len]; exact hi
  have hbl : b < w0.heap.size := (World.ownsRow.lt h.own b rfl).2
  have hnb : ∀ j, j < rs.length → (rs.getD j nilV).ownBlock ≠ some b := fun j hj e => h.nb j b hj e rfl
  have hyne : y.ownBlock ≠ some b := fun e => by
    rcases hyb b e with h1 | h1
    · exact hnb i hi h1
    · omega
  have hset : ∀ k, k ≠ b → (w1.setCell ⟨b, i, none⟩ y).heap[k]? = w1.heap[k]? := fun k hk => (only_set1 w1 b i y).block k hk
  refine ⟨?_, by rw [List.length_set, List.length_set]; exact h.len, fun j hj => ?_, fun j k x hj hk e1 e2 => ?_, fun j k hj e1 => ?_⟩
  · obtain ⟨h1, h2⟩ := h.own
    rw [List.length_set]
    refine ⟨by rw [List.length_set]; exact h1, ?_⟩
    rcases h2 with ⟨e, _⟩ | ⟨g, c2, cur, e, hbb, hg, hn, hm2, hs, ht⟩
    · cases e
    · cases e
      refine .inr ⟨b, cap, cur.setIfInBounds i y, rfl, hbb, ?_, hn, hm2, by simpa using hs, ?_⟩
      · have e1 : w1.heap[b]? = some (.cells cur 23 (0, 0)) := by rw [hblk b hbl (hnb i hi)]; exact hg
        simp [World.setCell, Array.getElem?_modify, e1]
      · rw [Nat.mul_one] at ht ⊢
        rw [Array.toList_setIfInBounds, List.take_set, ht]
  · rw [List.length_set] at hj
    by_cases hji : i = j
    · subst hji
      rw [set_at hi, set_at hm]
      exact hy.far (fun k hk => hset k (fun e => hyne (e ▸ hk)))
    · rw [set_off hji, set_off hji]
      refine (h.row j hj).far (fun k hk => ?_)
      have hkb : k ≠ b := fun e => hnb j hj (e ▸ hk)
      rw [hset k hkb, hblk k ((h.row j hj).blk k hk).2 (fun e => hji (h.ne i j k hi hj e hk))]
  · rw [List.length_set] at hj hk
    by_cases hji : i = j
    · by_cases hki : i = k
      · omega
      · exfalso
        subst hji
        rw [set_at hi] at e1
        rw [set_off hki] at e2
        rcases hyb x e1 with h1 | h1
        · exact hki (h.ne i k x hi hk h1 e2)
        · have := ((h.row k hk).blk x e2).2
          omega
    · rw [set_off hji] at e1
      by_cases hki : i = k
      · exfalso
        subst hki
        rw [set_at hi] at e2
        rcases hyb x e2 with h1 | h1
        · exact hji (h.ne i j x hi hj h1 e1)
        · have := ((h.row j hj).blk x e1).2
          omega
      · rw [set_off hki] at e2
        exact h.ne j k x hj hk e1 e2
  · rw [List.length_set] at hj
    by_cases hji : i = j
    · subst hji
      rw [set_at hi] at e1
      intro e
      have : b = k := by simpa [Value.ownBlock] using e
      subst this
      exact hyne e1
    · rw [set_off hji] at e1
      exact h.nb j k hj e1
/-- a matrix whose blocks hold the rows and no more, as a list of rows -/
theorem MatX.rs {w : World} {b c n B : Nat} {rs : List (Nat × Nat)} {M : List (List Int)} (h : MatX w b rs c M) (hm : Mat w b rs c M) (hl : rs.length = n) (hc : ∀ i, i < n → (rs.getD i (0, 0)).2 = c) (hB : ∀ i, i < rs.length → B ≤ (rs.getD i (0, 0)).1) (hbB : B ≤ b) (hn6 : n ≤ 1000000) (hc6 : c ≤ 1000000) :
    RS w B (.slice (some ⟨b, 0, none⟩) n n) (rs.map fun g => Value.slice (some ⟨g.1, 0, none⟩) c g.2) M := by
  have hg : ∀ i, i < n → (rs.map fun g => Value.slice (some ⟨g.1, 0, none⟩) c g.2).getD i nilV = .slice (some ⟨(rs.getD i (0, 0)).1, 0, none⟩) c c := fun i hi => by
    have e : (rs.map fun g => Value.slice (some ⟨g.1, 0, none⟩) c g.2).getD i nilV = .slice (some ⟨(rs.getD i (0, 0)).1, 0, none⟩) c (rs.getD i (0, 0)).2 := by
      simp [List.getD, show i < rs.length by omega]
    rw [e, hc i hi]
  have hln : (rs.map fun g => Value.slice (some ⟨g.1, 0, none⟩) c g.2).length = n := by simp [hl]
  refine ⟨?_, by rw [hln, hm.len, hl], fun i hi => ?_, fun i j k hi hj e1 e2 => ?_, fun i k hi e1 e2 => ?_⟩
  · rw [hln]
    refine ⟨by rw [hln]; omega, .inr ⟨b, n, _, rfl, hbB, h.rows, Nat.le_refl _, by unfold maxLen; omega, by simp [hl], ?_⟩⟩
    rw [Nat.mul_one]
    exact List.take_of_length_le (by simp [hl])
  · rw [hln] at hi
    rw [hg i hi]
    have hr := hm.row i (by omega)
    unfold OZ
    rw [hr.2]
    refine ⟨by rw [List.length_map, hr.2]; omega, .inr ⟨_, c, _, rfl, hB i (by omega), h.row i (by omega), Nat.le_refl _, by unfold maxLen; omega, by rw [List.size_toArray, List.length_map, hr.2, Nat.mul_one], ?_⟩⟩
    rw [Nat.mul_one]
    exact List.take_of_length_le (by rw [List.length_map, hr.2]; exact Nat.le_refl _)
  · rw [hln] at hi hj
    rw [hg i hi] at e1
    rw [hg j hj] at e2
    have a1 : (rs.getD i (0, 0)).1 = k := by simpa [Value.ownBlock] using e1
    have a2 : (rs.getD j (0, 0)).1 = k := by simpa [Value.ownBlock] using e2
    exact hm.ne i j (by omega) (by omega) (a1.trans a2.symm)
  · rw [hln] at hi
    rw [hg i hi] at e1
    have a1 : (rs.getD i (0, 0)).1 = k := by simpa [Value.ownBlock] using e1
    have a2 : b = k := by simpa [Value.ownBlock] using e2
    exact hm.nb i (by omega) (a1.trans a2.symm)
/-- rows of c elements as a matrix of the call's own -/
theorem RS.matV {w : World} {B b n cap c : Nat} {rs : List Value} {M : List (List Int)} (h : RS w B (.slice (some ⟨b, 0, none⟩) n cap) rs M) (hc : 0 < c) (hr : ∀ i, i < rs.length → (M.getD i []).length = c) :
    ∃ rp, Mat w b rp c M ∧ rp.length = rs.length ∧ B ≤ b ∧ ∀ i, i < rp.length → c ≤ (rp.getD i (0, 0)).2 ∧ B ≤ (rp.getD i (0, 0)).1 := by
  by_cases h0 : 0 < rs.length
  · obtain ⟨b2, cap2, rp, e, _, h1, h2, h3, h4⟩ := h.mat h0 hc hr
    cases e
    exact ⟨rp, h1, h2, h3, h4⟩
  · have hz : rs = [] := List.eq_nil_of_length_eq_zero (by omega)
    subst hz
    obtain ⟨h1, h2⟩ := h.own
    rcases h2 with ⟨e, _⟩ | ⟨g, c2, cur, e, hbb, hg, hn, hm, hs, ht⟩
    · cases e
    · cases e
      refine ⟨[], ⟨⟨cur.toList, ?_⟩, h.len, fun i hi => absurd hi (Nat.not_lt_zero _), fun i j hi => absurd hi (Nat.not_lt_zero _), fun i hi => absurd hi (Nat.not_lt_zero _)⟩, rfl, hbb, fun i hi => absurd hi (Nat.not_lt_zero _)⟩
      unfold VBlk
      rw [hg]
      rfl
theorem OZ.drew {w : World} {B : Nat} {v : Value} {L : List Int} (h : OZ w B v L) : OZ w.drew B v L := h.far (fun _ _ => rfl)
theorem RS.drew {w : World} {B : Nat} {v : Value} {rs : List Value} {M : List (List Int)} (h : RS w B v rs M) : RS w.drew B v rs M := h.far (fun _ _ => rfl) (fun _ _ _ _ => rfl)

/-- 'append(x, y)' as one step of a region that draws its order -/
theorem step_append_zl (w0 : World) {ops : Array Oper} {o : Oper} {a : Act} {K : Act → World → Prop} {Q : Exit → Act → World → Prop} {E : Prop} (hgd : o.guard = none) (s x : Operand)
    (ho : o.op = .call { callee := .builtin .append, args := #[s, x], argTypes := #[23, 23] })
    (B : Nat) (v : Value) (L : List Int) (y : Int) (hs : a.eval s = v) (hx : a.eval x = .slice (some ⟨w0.heap.size, 0, none⟩) 1 1) (hown : OZ w0 B v L) (hB : B ≤ w0.heap.size) (hL : L.length ≤ 1000000)
    (h : ∀ v' w', OZ w' B v' (L ++ [y]) → (∀ k, k < w0.heap.size → v.ownBlock ≠ some k → w'.heap[k]? = w0.heap[k]?) → (∀ k, v'.ownBlock = some k → v.ownBlock = some k ∨ w0.heap.size ≤ k) → Below B w0 w' → K (a.put o.dst v') w') :
    if Region.wanted o (yielded ops a.tmps) = true then Oper.wp Tryz.prog o a (w0.alloc (.cells #[.int .i64 y] 3)) K Q else E := by
  obtain ⟨i0, hi, hz0, hz1, hz2⟩ := info_parts Tryz.infoInt
  refine step_append_lies _ hgd s x 23 ho B 3 i0 (.int .i64 0) 1 8 Tryz.underlying23 hi hz0 hz1 hz2 rfl (by decide) v L.length _ hs (World.ownsRow.alloc hown _) ⟨w0.heap.size, 0, none⟩ 1 1 [.int .i64 y] hx rfl (cell_one_new _ _ _) ?_ (by decide) (by unfold maxLen; omega) (by omega) (by simp; omega) (w0.heap.size + 1) (by simp) ?_
  · intro u hu; rw [List.mem_singleton] at hu; subst hu; rfl
  · intro g' cap w' r1 r2 r3 r4
    refine h _ w' ?_ ?_ ?_ ?_
    · unfold OZ
      rw [List.length_append, List.map_append]
      exact r1
    · intro k hk hne
      rw [r2.block k (by simp; omega) (fun e => hne e.symm), Below.heap_alloc _ _ _ hk]
    · intro k hk
      have e2 : g' = k := by simpa [Value.ownBlock] using hk
      subst e2
      rcases r3 with r3 | r3
      · exact Or.inl r3
      · right; omega
    · refine ((Below.refl B w0).alloc hB _).grown r2 (by simp; omega) ?_
      intro k hk
      exact (World.ownsRow.lt hown k hk).1
end Go.Proofs.YthicfkeiggcjjaaGreatDoor

namespace Go.Proofs.YthicfkeiggcjjaaGreatDoor
open Go Go.RowKit

/-- 'append(nil, l...)' -/
theorem wpList_append_all (w0 : World) {ops : Array Oper} {rest : List Oper} {o : Oper} {a : Act} {Q : Exit → Act → World → Prop} (hgd : o.guard = none) (s x : Operand)
    (ho : o.op = .call { callee := .builtin .append, args := #[s, x], argTypes := #[23, 23] })
    (B : Nat) (ro : Option Addr) (m c : Nat) (l : List Int) (hs : a.eval s = .slice none 0 0) (hx : a.eval x = .slice ro m c) (h : Ns w0 ro m c l) (hm : 0 < m) (hm6 : m ≤ 1000000) (hB : B ≤ w0.heap.size)
    (K : ∀ v' w', OZ w' B v' l → Below B w0 w' → wpList Tryz.prog ops Q rest (a.put o.dst v') w') :
    wpList Tryz.prog ops Q (o :: rest) a w0 := by
  obtain ⟨i0, hi, hz0, hz1, hz2⟩ := info_parts Tryz.infoInt
  obtain ⟨b, off, rfl, hc⟩ := h.cells hm
  have hl := h.len
  refine wpList_append_lies _ hgd s x 23 ho B 3 i0 (.int .i64 0) 1 8 Tryz.underlying23 hi hz0 hz1 hz2 rfl (by decide) (.slice none 0 0) 0 [] hs (World.ownsRow_nil _ _ _ _) ⟨b, off, none⟩ m c (l.map (Value.int .i64 ·)) hx (by rw [List.length_map, hl]; omega) (fun j u hj => ?_) ?_ hm (by unfold maxLen; omega) (by omega) hB w0.heap.size rfl ?_
  · have hj2 : j < m := by
      rw [List.getElem?_eq_some_iff] at hj
      obtain ⟨h1, _⟩ := hj
      rw [List.length_map] at h1
      omega
    rw [Addr.add_lit, hc j hj2, ← hj]
    simp [List.getD, show j < l.length by omega]
  · intro u hu
    obtain ⟨v, _, rfl⟩ := List.mem_map.1 hu
    rfl
  · intro g cap w' r1 r2 r3 r4
    refine K _ w' ?_ ?_
    · unfold OZ
      rw [Nat.zero_add, List.nil_append] at r1
      rw [hl, Nat.zero_add]
      exact r1
    · refine (Below.refl B w0).grown r2 hB ?_
      intro k hk
      simp [Value.ownBlock] at hk

/-- what the reference's Solve returns -/
def RSolveOut (n : Nat) (S : Ech) (w : World) (r : Ending) (w' : World) : Prop :=
  (S.L.length < n → r = .returned (.tuple #[.slice none 0 0, .bool false])) ∧ (¬ S.L.length < n → ∃ xo xc, r = .returned (.tuple #[.slice xo n xc, .bool true]) ∧ Ns w' xo n xc (solL n S)) ∧ Ext w w'

set_option maxRecDepth 100000 in
set_option maxHeartbeats 16000000 in
theorem refSolve_any (ao bo : Option Addr) (n cap bc : Nat) (M : List (List Int)) (bs : List Int) (S : Ech) (p : Int) (w : World) (hm : Nss w ao n cap M) (hbs : Ns w bo n bc bs) (hrow : ∀ i, i < n → (M.getD i []).length = n) (hw : widthM M = n) (hn : n ≤ 100) (hp : 2 ≤ p) (hp2 : p ≤ 2147483647) (hpr : noDiv p.toNat 2)
    (hS : reduceE p n 0 ⟨resM p (wideM n M bs), [], 1⟩ = S) :
    Calls Tryz.prog 21 #[.slice ao n cap, .slice bo n bc, .int .i64 p] w (RSolveOut n S w) := by
  have HM := Lib.hid hm
  have HML := Lib.hid hm.len
  have HROW := Lib.hid hrow
  have HBS := Lib.hid hbs
  have hok := res_ok (p := p) (n := n) (c := n + 1) (M := wideM n M bs) hp (wide_len n M bs) (wide_row bs hrow)
  have hok0 := res_ok (p := p) (n := n) (c := n) (M := M) hp hm.len hrow
  have hos : EOk p n (n + 1) S := by rw [← hS]; exact hok.reduce hp n 0 _
  have HOS := Lib.hid hos
  obtain ⟨S0, hS0⟩ : ∃ S0, reduceE p n 0 ⟨resM p M, [], 1⟩ = S0 := ⟨_, rfl⟩
  have hL0 : S0.L = S.L := by rw [← hS0, ← hS]; exact wide_reduce bs hm.len hrow
  have hpos : 0 < S0.f := by rw [← hS0]; exact reduce_pos hpr hp n 0 _ hok0 (by omega) (show (0 : Int) < 1 by omega)
  have CDET := Lib.hid (fun wx (h : Ext w wx) => refDet_any ao n cap M p S0 wx (hm.below h) hrow hw (by omega) hp hp2 hS0 (by rw [hL0]; exact hos.pl))
  have HDET := Lib.hid (show detE n S0 = 0 ↔ S.L.length < n by
    unfold detE
    rw [hL0]
    by_cases h : S.L.length < n
    · rw [if_pos h]; exact ⟨fun _ => h, fun _ => rfl⟩
    · rw [if_neg h]; exact ⟨fun e => by omega, fun e => absurd e h⟩)
  have CECH := Lib.hid (show ∀ wx vo vc, Ext w wx → Nss wx vo n vc (wideM n M bs) → ¬ S.L.length < n → Calls Tryz.prog 41 #[.slice vo n vc, .int .i64 p] wx fun r w' => ∃ xo xc yo yk yc d, r = .returned (.tuple #[.slice xo n xc, .slice yo yk yc, .int .i64 d]) ∧ (0 < n → ∃ b rs, xo = some ⟨b, 0, none⟩ ∧ Mat w' b rs (n + 1) S.M ∧ rs.length = n) ∧ Ext wx w' from fun wx vo vc _ hns hlt => by
    by_cases h0 : 0 < n
    · have hz : findR S.M n (S.M.length - S.L.length) S.L.length = S.M.length := by
        have e1 := hos.len
        have e2 := hos.pl
        rw [show S.M.length - S.L.length = 0 by omega]
        show S.L.length = S.M.length
        omega
      have hS1 : reduceE p (n + 1) 0 ⟨resM p (wideM n M bs), [], 1⟩ = S := by
        rw [reduce_add n 1 0, hS]
        show stepE p (0 + n) S = S
        rw [Nat.zero_add]
        exact step_none hz
      refine (refEch_all vo n vc (n + 1) (wideM n M bs) p S wx hns (wide_row bs hrow) (wide_width bs hrow h0) (by omega) (by omega) hp hp2 hS1).mono ?_
      rintro r w' ⟨xo, xc, yo, yc, d, rfl, -, -, hmm, hE⟩
      exact ⟨xo, xc, yo, _, yc, d, rfl, fun _ => hmm (by omega), hE⟩
    · have hn0 : n = 0 := by omega
      subst hn0
      refine (refEch_all vo 0 vc 0 (wideM 0 M bs) p S wx hns (fun i hi => absurd hi (Nat.not_lt_zero _)) rfl (by omega) (by omega) hp hp2 hS).mono ?_
      rintro r w' ⟨xo, xc, yo, yc, d, rfl, -, -, hmm, hE⟩
      exact ⟨xo, xc, yo, _, yc, d, rfl, fun h => absurd h (by omega), hE⟩)
  obtain ⟨D, hD⟩ : ∃ D, detE n S0 = D := ⟨_, rfl⟩
  rw [hD] at CDET HDET
  obtain ⟨C, hCe⟩ : ∃ C, w.heap.size = C := ⟨_, rfl⟩
  have HEX := Lib.hid (show ∀ wx, Below C w wx → Ext w wx from fun wx h => by rw [← hCe] at h; exact h)
  have hC0 : C ≤ w.heap.size := by omega
  have HCE := Lib.hid hCe
  have HWL := Lib.hid (wide_len n M bs)
  clear hm hbs hrow hw hS hok hok0 hos hS0 hL0 hpos hD hCe
  go_enter Tryz.func21, Tryz.ntmps21
  go_wp2
  go_loopw [8, 9, 10] (fun av iv _ wr => ∃ (i : Nat) (rs : List Value), i ≤ n ∧ iv = .int .i64 (i : Int) ∧ Hid (RS wr C av rs ((wideM n M bs).take i)) ∧ Hid (Below C w wr) ∧ C ≤ wr.heap.size)
    (fun _ iv _ _ => n - (intOf iv).toNat)
  case atStart => exact ⟨0, [], Nat.zero_le _, rfl, Lib.hid (RS.nil _ C), Lib.hid (Below.refl C w), hC0⟩
  case round =>
    obtain ⟨i, rs, hi, rfl, hRS, hE, hCs⟩ := hrel
    by_cases hlt : i < n
    · have hii : (i : Int) < (n : Int) := by omega
      have HNI := Lib.hid (HM.out.below (HEX.out _ hE.out))
      obtain ⟨a, off, rfl, hc1⟩ := HNI.out.rows (by omega)
      obtain ⟨ri, ci, h1, h2⟩ := hc1 i hlt
      have hrl := HROW.out i hlt
      obtain ⟨l, hl⟩ : ∃ l, M.getD i [] = l := ⟨_, rfl⟩
      rw [hl] at h1 h2 hrl
      rw [hrl] at h1 h2
      have HN := Lib.hid h2
      obtain ⟨v, hv⟩ : ∃ v, bs.getD i 0 = v := ⟨_, rfl⟩
      have HRT := Lib.hid (show (wideM n M bs).take (i + 1) = (wideM n M bs).take i ++ [l ++ [v]] by
        rw [List.take_succ_eq_append_getElem (by rw [HWL.out]; exact hlt)]
        congr 2
        have := wide_get M bs hlt
        rw [hl, hv] at this
        rw [← this]
        simp [List.getD, show i < (wideM n M bs).length by rw [HWL.out]; exact hlt])
      obtain ⟨D', hD'⟩ : ∃ D', wr.heap.size = D' := ⟨_, rfl⟩
      have HXD := Lib.hid (show ∀ wx, Below D' wr wx → Ext wr wx from fun wx h => by rw [← hD'] at h; exact h)
      have hD0 : D' ≤ wr.heap.size := by omega
      have hCD : C ≤ D' := by omega
      have hfar := hRS.out.lt
      rw [hD'] at hfar
      have hl6 : rs.length ≤ 1000000 := by
        have := hRS.out.len
        rw [List.length_take, HWL.out] at this
        omega
      have hn0 : 0 < n := by omega
      have HLL := Lib.hid hrl
      clear hc1 h2 hl hrl hD'
      go_wp2_with (at_builtin; refine wpList_append_all _ rfl (.tmp 22) (.tmp 26) rfl D' ri n ci l rfl rfl HN.out hn0 (by omega) hD0 ?_)
      intro v1 w2 ho1 hb1
      have HB1 := Lib.hid hb1
      obtain ⟨yo, yc, rfl⟩ := ho1.slE
      obtain ⟨bb, ob, rfl, hcb⟩ := ((HBS.out.below (HEX.out _ hE.out)).below (HXD.out _ hb1)).cells hn0
      have k2 := hcb i hlt
      rw [hv] at k2
      have hs2 : D' ≤ w2.heap.size := Nat.le_trans hD0 hb1.size
      have hl61 : l.length ≤ 1000000 := by rw [HLL.out]; omega
      clear hcb hb1 h1
      go_wp2_with (at_builtin; refine wpList_append_z _ rfl (.tmp 29) (.tmp 34) rfl D' _ l v rfl rfl ho1 hs2 hl61 ?_)
      intro v2 w3 ho2 hb2
      obtain ⟨yo2, yc2, rfl⟩ : ∃ yo2 yc2, v2 = .slice yo2 (l.length + 1) yc2 := by
        obtain ⟨a1, a2, e1⟩ := ho2.slE
        exact ⟨a1, a2, by rw [e1, List.length_append]; rfl⟩
      have hrs3 := (hRS.out.below (HXD.out _ (HB1.out.trans hb2)))
      have hs3 : C ≤ w3.heap.size := by have := hb2.size; omega
      have HB3 := Lib.hid (hE.out.trans ((HB1.out.trans hb2).mono hCD))
      clear ho1 hb2 k2 hRS hE
      go_wp2_with (at_builtin; refine wpList_append_rs _ rfl (.tmp 28) (.tmp 36) rfl C D' _ rs ((wideM n M bs).take i) _ (l ++ [v]) rfl rfl hrs3 ho2 hCD hfar hs3 hl6 ?_)
      intro pv' w4 hp2' hB2
      have hsz := hB2.size
      rw [← HRT.out] at hp2'
      have Rr := Lib.hid (And.intro (Lib.hid hp2') (Lib.hid (HB3.out.trans hB2)))
      clear ho2 hp2' hrs3 hfar hB2 HB3
      go_wp2
      go_roundw
      case rel => exact ⟨i + 1, _, by omega, by go_num, Rr.out.1, Rr.out.2, by omega⟩
      case measure => simp [intOf] <;> omega
    · obtain rfl : n = i := by omega
      have hRS2 := hRS.out
      rw [List.take_of_length_le (by rw [HWL.out]; exact Nat.le_refl _)] at hRS2
      obtain ⟨vo, vc, rfl, hns⟩ := hRS2.nss
      rw [HWL.out] at hns ⊢
      have HNS := Lib.hid hns
      have HEW := Lib.hid (HEX.out _ hE.out)
      clear hRS hRS2 hns hE
      go_wp2_with fail
      refine (CDET.out _ HEW.out).mono ?_
      rintro r w2 ⟨rfl, hE2⟩
      have HE2 := Lib.hid (HEW.out.trans hE2)
      have HN2 := Lib.hid (HNS.out.below hE2)
      clear hE2 CDET HEW HNS
      by_cases hd0 : D = 0
      · subst hd0
        have hlt := HDET.out.1 rfl
        have HLT := Lib.hid hlt
        clear hlt
        go_wp2
        refine bodyPost_ret (v := .tuple #[.slice none 0 0, .bool false]) (by simp [results, Tryz.results21, go_sem]) rfl ⟨fun _ => rfl, fun h => absurd HLT.out h, HE2.out⟩
      · have hdb : (D == 0) = false := beq_eq_false_iff_ne.2 hd0
        have HGE := Lib.hid (show ¬ S.L.length < n from fun h => hd0 (HDET.out.2 h))
        go_wp2_with fail
        refine (CECH.out _ vo vc HE2.out HN2.out HGE.out).mono ?_
        rintro r w3 ⟨xo, xc, yo, yk, yc, d, rfl, hmat, hE3⟩
        have HMT := Lib.hid hmat
        have HE3 := Lib.hid (HE2.out.trans hE3)
        obtain ⟨N, hN⟩ : ∃ N, w3.heap.size = N := ⟨_, rfl⟩
        have HXN := Lib.hid (show ∀ wx, Below N w3 wx → Ext w3 wx from fun wx h => by rw [← hN] at h; exact h)
        have hN0 : N ≤ w3.heap.size := by omega
        have HCN := Lib.hid (show C ≤ N by rw [← hN, ← HCE.out]; exact HE3.out.size)
        clear hmat hE3 CECH hN HE2 HN2
        rename World => w3
        go_wp2
        go_loopw [14, 15] (fun xv iv wr => ∃ i : Nat, i ≤ n ∧ iv = .int .i64 (i : Int) ∧ OZ wr N xv ((solL n S).take i) ∧ Below N w3 wr ∧ N ≤ wr.heap.size)
          (fun _ iv _ => n - (intOf iv).toNat)
        case atStart => exact ⟨0, Nat.zero_le _, rfl, OZ.nil _ N, Below.refl N _, hN0⟩
        case round =>
          obtain ⟨i, hi, rfl, hown, hB, hs⟩ := hrel
          by_cases hlt : i < n
          · have hii : (i : Int) < (n : Int) := by omega
            obtain ⟨b, rs, rfl, hM, hrl⟩ := HMT.out (by omega)
            have hM := hM.below (HXN.out _ hB)
            have hir : i < rs.length := by rw [hrl]; exact hlt
            have k0 := hM.slice hir
            have hri := hM.row i hir
            have c1 := hri.1.c (j := n) (by rw [hri.2]; omega)
            obtain ⟨v, hv⟩ : ∃ v, (S.M.getD i []).getD n 0 = v := ⟨_, rfl⟩
            have HST := Lib.hid (sol_take (S := S) hlt)
            rw [hv] at c1 HST
            obtain ⟨gi, hgi⟩ : ∃ gi, (rs.getD i (0, 0)).1 = gi := ⟨_, rfl⟩
            obtain ⟨ci, hci⟩ : ∃ ci, (rs.getD i (0, 0)).2 = ci := ⟨_, rfl⟩
            rw [hgi, hci] at k0
            rw [hgi] at c1
            have hni2 : (n : Int) < (n : Int) + 1 := by omega
            have hlp : ((solL n S).take i).length ≤ 1000000 := by rw [List.length_take]; omega
            have HB := Lib.hid hB
            clear hM hrl hir hri hv hgi hci hB
            go_wp2_with (at_builtin; refine wpList_append_z _ rfl (.tmp 55) (.tmp 64) rfl N _ ((solL n S).take i) v rfl rfl hown hs hlp ?_)
            intro pv' w5 hp2' hB2
            have hsz := hB2.size
            rw [← HST.out] at hp2'
            have Rr := Lib.hid (And.intro hp2' (HB.out.trans hB2))
            clear hown hp2' hB2 k0 c1
            go_wp2
            go_roundw
            case rel => exact ⟨i + 1, by omega, by go_num, Rr.out.1, Rr.out.2, by omega⟩
            case measure => simp [intOf] <;> omega
          · obtain rfl : n = i := by omega
            rw [List.take_of_length_le (by rw [sol_len]; exact Nat.le_refl _)] at hown
            obtain ⟨zo, zc, rfl, hns⟩ := hown.nsV
            rw [sol_len] at hns ⊢
            have HNS := Lib.hid hns
            have HEF := Lib.hid (show Ext w wr from HE3.out.trans (HXN.out _ hB))
            clear hown hns hB
            go_wp2
            refine bodyPost_ret (v := .tuple #[.slice zo n zc, .bool true]) (by simp [results, Tryz.results21, go_sem]) rfl ⟨fun h => absurd h HGE.out, fun _ => ⟨_, _, rfl, HNS.out⟩, HEF.out⟩
end Go.Proofs.YthicfkeiggcjjaaGreatDoor
