/- How a list of dyads that comes in reads. -/
import Derived.Test.YtilmighjcjgccaaDoorCRawD
import Derived.Test.YtilmighjcjgccaaDoorHg
import Derived.Test.YtilmighjcjgccaaDoorGp
namespace Go.Proofs.YtilmighjcjgccaaDoor
open Go.ChangeShapes Go.WideShapes Go.ChangeAt Go.RowKit Go.Joins Go.Deep

theorem Tryd.readDyads : Tryd.prog.readableRec 22 = true := by kernel_rfl
theorem Tryd.sizeDyads : 22 < Tryd.prog.types.size := of_decide_eq_true (by kernel_rfl)

/-- four cells of an element -/
theorem four_cells {W : World} {base : Nat} {a : Addr} {cs : List Value} (h : W.cells? base a 4 = some cs) : ∃ c0 c1 c2 c3, cs = [c0, c1, c2, c3] ∧ W.cell? (a.add 0) = some c0 ∧ W.cell? (a.add 1) = some c1 ∧ W.cell? (a.add 2) = some c2 ∧ W.cell? (a.add 3) = some c3 := by
  obtain ⟨_, hl, hc⟩ := World.cells?_some h
  match cs, hl with
  | [c0, c1, c2, c3], _ =>
    exact ⟨c0, c1, c2, c3, rfl, by simpa using hc 0 (by omega), by simpa using hc 1 (by omega), by simpa using hc 2 (by omega), by simpa using hc 3 (by omega)⟩

set_option maxRecDepth 100000 in
/-- what the cells of a dyad that came in are -/
theorem trod_dyad {H : Type} {enc : TypeId × Value → H} {W : World} {c0 c1 c2 c3 : Value} {fuel : Nat} {x : DataW H × List MemPlace} (hf : DataW.trod enc Tryd.prog W 0 (fun _ => true) true fuel 29 [c0, c1, c2, c3] = some x) :
    ∃ q : DP, c0 = .bool q.bb ∧ c1 = .bool q.nb ∧ c2 = .slice q.ao q.n q.ca ∧ c3 = .int .i64 q.e ∧ -9223372036854775808 ≤ q.e ∧ q.e ≤ 9223372036854775807 ∧ (q.n ≤ 1099511627776 → ∃ zs, Sl W q.ao q.n q.ca zs) := by
  obtain ⟨y0, y1, y2, m, _, _, hy0, hy1, hy2⟩ := trod_struct3 Tryd.underlying29 hf
  simp only [Tryd.cellsBool, Tryd.cellsBig, Tryd.cellsInt, List.drop_zero, List.take_succ_cons, List.take_zero, List.drop_succ_cons] at hy0 hy1 hy2
  obtain ⟨bb, e0, _⟩ := DataW.trod_bool Tryd.underlying4 hy0
  simp at e0
  subst e0
  obtain ⟨f, e2, _, wf⟩ := DataW.trod_int Tryd.underlying3 hy2
  simp at e2
  subst e2
  obtain ⟨z0, z1, m', _, _, hz0, hz1⟩ := trod_struct2 Tryd.underlying27 hy1
  simp only [Tryd.cellsBool, Tryd.cellsSl, List.drop_zero, List.take_succ_cons, List.take_zero, List.drop_succ_cons] at hz0 hz1
  obtain ⟨nb, e1, _⟩ := DataW.trod_bool Tryd.underlying4 hz0
  simp at e1
  subst e1
  have hb := bounds_i64 wf
  rcases open_ints Tryd.underlying25 Tryd.underlying49 Tryd.cellsU32 hz1 with ⟨e1, _⟩ | ⟨a, len, cap, zs, e1, _, hl, _, hz, _, hcell, hwz⟩
  · simp at e1
    subst e1
    exact ⟨⟨bb, nb, none, 0, 0, f⟩, rfl, rfl, rfl, rfl, by show _ ≤ f; omega, by show f ≤ _; omega, fun _ => ⟨[], Sl.nil W⟩⟩
  · simp at e1
    subst e1
    simp only [if_true] at hz
    refine ⟨⟨bb, nb, some a, len, cap, f⟩, rfl, rfl, rfl, rfl, by show _ ≤ f; omega, by show f ≤ _; omega, fun hb => ⟨zs.take len, by rw [List.length_take, Nat.min_eq_left]; omega, hl, hb, fun z hz => wf_u32 (hwz z (List.mem_of_mem_take hz)), ?_⟩⟩
    intro h0
    rw [List.length_take] at h0
    obtain ⟨b, off, rfl, hc⟩ := ints_at hcell (by omega)
    refine ⟨b, off, rfl, fun j hj => ?_⟩
    rw [List.length_take] at hj
    rw [take_getD zs len j (by omega)]
    exact hc j (by omega)
/-- a list from its entries -/
theorem exists_list {P : Nat → DP → Prop} (n : Nat) (h : ∀ j, j < n → ∃ q, P j q) : ∃ l : List DP, l.length = n ∧ ∀ j, j < n → P j (l.getD j DP.zero) := by
  induction n with
  | zero => exact ⟨[], rfl, fun j hj => absurd hj (Nat.not_lt_zero j)⟩
  | succ n ih =>
    obtain ⟨l, hl, hp⟩ := ih fun j hj => h j (by omega)
    obtain ⟨q, hq⟩ := h n (by omega)
    refine ⟨l ++ [q], by simp [hl], fun j hj => ?_⟩
    by_cases hj' : j < n
    · have : (l ++ [q]).getD j DP.zero = l.getD j DP.zero := by simp [List.getD, List.getElem?_append, show j < l.length by omega]
      rw [this]; exact hp j hj'
    · obtain rfl : j = n := by omega
      have : (l ++ [q]).getD j DP.zero = q := by simp [List.getD, hl]
      rw [this]; exact hq

/-- an entry of a list of dyads that came in -/
structure RawD1 (W : World) (b off j : Nat) (q : DP) : Prop where
  c0 : W.cell? ⟨b, off + 4 * j, none⟩ = some (.bool q.bb)
  c1 : W.cell? ⟨b, off + 4 * j + 1, none⟩ = some (.bool q.nb)
  c2 : W.cell? ⟨b, off + 4 * j + 2, none⟩ = some (.slice q.ao q.n q.ca)
  c3 : W.cell? ⟨b, off + 4 * j + 3, none⟩ = some (.int .i64 q.e)
  lo : -9223372036854775808 ≤ q.e
  hi : q.e ≤ 9223372036854775807
  sl : q.n ≤ 1099511627776 → ∃ zs, Sl W q.ao q.n q.ca zs

set_option maxRecDepth 100000 in
/-- a list of dyads that came in -/
theorem raw_dyads {H : Type} {enc : TypeId × Value → H} {W : World} {base : Nat} {v : Value} {d : DataW H} {p : List MemPlace} (hv : Value.okWide Tryd.prog W .any base 22 v)
    (h : DataW.Trod enc Tryd.prog W 0 (fun _ => true) true 22 v d p) : ∃ ao n ca, v = .slice ao n ca ∧ n ≤ ca ∧ (n = 0 ∨ ∃ b off, ∃ l : List DP, ao = some ⟨b, off, none⟩ ∧ l.length = n ∧ ∀ j, j < n → RawD1 W b off j (l.getD j DP.zero)) := by
  obtain ⟨a0, len0, cap0, rfl⟩ := okWide_slice Tryd.underlying22 hv
  obtain ⟨fuel, hf⟩ := h
  rcases DataW.trod_slice Tryd.underlying22 hf with ⟨e1, _⟩ | ⟨a, len, cap, elems, rest, n, rfl, e1, _, _, hl, _, hel, hi, _, _⟩
  · simp [Value.cells] at e1
    obtain ⟨rfl, rfl, rfl⟩ := e1
    exact ⟨none, 0, 0, rfl, Nat.le_refl _, Or.inl rfl⟩
  · simp [Value.cells] at e1
    obtain ⟨rfl, rfl, rfl⟩ := e1
    refine ⟨some a, len0, cap0, rfl, hl, ?_⟩
    by_cases h0 : len0 = 0
    · exact Or.inl h0
    · rw [Tryd.cellsDyad] at hi
      have one : ∀ i, i < len0 → ∃ q : DP, (W.cell? ((a.add (i * 4)).add 0) = some (.bool q.bb) ∧ W.cell? ((a.add (i * 4)).add 1) = some (.bool q.nb) ∧ W.cell? ((a.add (i * 4)).add 2) = some (.slice q.ao q.n q.ca) ∧ W.cell? ((a.add (i * 4)).add 3) = some (.int .i64 q.e)) ∧
          -9223372036854775808 ≤ q.e ∧ q.e ≤ 9223372036854775807 ∧ (q.n ≤ 1099511627776 → ∃ zs, Sl W q.ao q.n q.ca zs) := by
        intro i hlt
        have h1 := hi i hlt
        rw [List.getElem?_eq_getElem (show i < elems.length by omega)] at h1
        obtain ⟨cs, hcs, hx⟩ := Option.bind_eq_some_iff.1 h1
        obtain ⟨c0, c1, c2, c3, rfl, r0, r1, r2, r3⟩ := four_cells hcs
        obtain ⟨q, rfl, rfl, rfl, rfl, q1, q2, q3⟩ := trod_dyad hx
        exact ⟨q, ⟨r0, r1, r2, r3⟩, q1, q2, q3⟩
      obtain ⟨b, off, spot⟩ := a
      have hs : spot = none := by
        obtain ⟨q, ⟨r0, _⟩, _⟩ := one 0 (by omega)
        have := World.cell?_spot r0
        simpa [Addr.add] using this
      subst hs
      obtain ⟨l, hl1, hl2⟩ := exists_list len0 one
      refine Or.inr ⟨b, off, l, rfl, hl1, fun j hj => ?_⟩
      obtain ⟨⟨r0, r1, r2, r3⟩, q1, q2, q3⟩ := hl2 j hj
      rw [Go.WideShapes.add_plain, Go.WideShapes.add_plain] at r0 r1 r2 r3
      have e4 : off + j * 4 = off + 4 * j := by omega
      rw [e4] at r0 r1 r2 r3
      exact ⟨r0, r1, r2, r3, q1, q2, q3⟩
end Go.Proofs.YtilmighjcjgccaaDoor
