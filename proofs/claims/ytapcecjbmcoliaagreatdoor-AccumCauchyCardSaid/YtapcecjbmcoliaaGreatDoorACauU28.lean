import Derived.Test.YtapcecjbmcoliaaGreatDoorACauU24
import Derived.Test.YtapcecjbmcoliaaGreatDoorACauU27
namespace Go.Proofs.YtapcecjbmcoliaaGreatDoor
open Go Go.RowKit

/-- the parts of a dyad in memory -/
structure DP where
  bb : Bool
  nb : Bool
  ao : Option Addr
  n : Nat
  ca : Nat
  e : Int
def DP.v (p : DP) : Value := .agg #[.bool p.bb, .bool p.nb, .slice p.ao p.n p.ca, .int .i64 p.e]
def DP.cells (p : DP) : List Value := [.bool p.bb, .bool p.nb, .slice p.ao p.n p.ca, .int .i64 p.e]
def DP.zero : DP := ⟨false, false, none, 0, 0, 0⟩
/-- the cells of some dyads -/
def cells4 : List DP → List Value
  | [] => []
  | p :: l => .bool p.bb :: .bool p.nb :: .slice p.ao p.n p.ca :: .int .i64 p.e :: cells4 l

theorem cells4_len (l : List DP) : (cells4 l).length = 4 * l.length := by
  induction l with
  | nil => rfl
  | cons p l ih => simp only [cells4, List.length_cons, ih]; omega
theorem cells4_get (l : List DP) (j : Nat) (h : j < l.length) :
    (cells4 l)[4 * j]? = some (.bool (l.getD j DP.zero).bb) ∧ (cells4 l)[4 * j + 1]? = some (.bool (l.getD j DP.zero).nb) ∧
    (cells4 l)[4 * j + 2]? = some (.slice (l.getD j DP.zero).ao (l.getD j DP.zero).n (l.getD j DP.zero).ca) ∧ (cells4 l)[4 * j + 3]? = some (.int .i64 (l.getD j DP.zero).e) := by
  induction l generalizing j with
  | nil => simp at h
  | cons p l ih =>
    cases j with
    | zero => simp [cells4]
    | succ j =>
      have := ih j (by simpa using h)
      rw [show 4 * (j + 1) = 4 * j + 1 + 1 + 1 + 1 by omega]
      simpa [cells4, Nat.add_right_comm] using this

theorem cells4_set (l : List DP) (j : Nat) (p : DP) : ((((cells4 l).set (4 * j) (.bool p.bb)).set (4 * j + 1) (.bool p.nb)).set (4 * j + 2) (.slice p.ao p.n p.ca)).set (4 * j + 3) (.int .i64 p.e) = cells4 (l.set j p) := by
  induction l generalizing j with
  | nil => simp [cells4]
  | cons q l ih =>
    cases j with
    | zero => simp [cells4]
    | succ j =>
      have := ih j
      rw [show 4 * (j + 1) = 4 * j + 1 + 1 + 1 + 1 by omega]
      simp only [cells4, List.set_cons_succ, Nat.add_right_comm _ 1 3, Nat.add_right_comm _ 1 2]
      rw [← this]

/-- block g holds these dyads, and can be written -/
def DB (w : World) (g : Nat) (l : List DP) : Prop := w.heap[g]? = some (.cells (cells4 l).toArray 29 (0, 0))
section
variable {w w' : World} {g : Nat} {l : List DP}
theorem DB.lt (h : DB w g l) : g < w.heap.size := (Array.getElem?_eq_some_iff.1 h).1
theorem DB.f (h : DB w g l) (o : Nat) : w.frozen? ⟨g, o, none⟩ = false := by
  unfold DB at h; simp [World.frozen?, h]
theorem DB.kept {B : Nat} (h : DB w g l) (hb : Below B w w') (hg : g < B) : DB w' g l := by
  unfold DB; rw [hb.block g hg]; exact h
theorem DB.below (h : DB w g l) (hb : Below w.heap.size w w') : DB w' g l := h.kept hb h.lt
theorem DB.only {k : Nat} (h : DB w g l) (ho : Only k w w') (hne : g ≠ k) : DB w' g l := by
  unfold DB; rw [ho.block g hne]; exact h
theorem DB.drew (h : DB w g l) : DB w.drew g l := h
theorem DB.c (h : DB w g l) (j : Nat) (hj : j < l.length) :
    w.cell? ⟨g, 4 * j, none⟩ = some (.bool (l.getD j DP.zero).bb) ∧ w.cell? ⟨g, 4 * j + 1, none⟩ = some (.bool (l.getD j DP.zero).nb) ∧
    w.cell? ⟨g, 4 * j + 2, none⟩ = some (.slice (l.getD j DP.zero).ao (l.getD j DP.zero).n (l.getD j DP.zero).ca) ∧ w.cell? ⟨g, 4 * j + 3, none⟩ = some (.int .i64 (l.getD j DP.zero).e) := by
  obtain ⟨h0, h1, h2, h3⟩ := cells4_get l j hj
  rw [cell_of_row w g _ _ _ _ h, cell_of_row w g _ _ _ _ h, cell_of_row w g _ _ _ _ h, cell_of_row w g _ _ _ _ h]
  simp only [List.getElem?_toArray]
  exact ⟨h0, h1, h2, h3⟩
end
/-- four cells of block g set -/
def set4 (w : World) (g o : Nat) (p : DP) : World := (((w.setCell ⟨g, o, none⟩ (.bool p.bb)).setCell ⟨g, o + 1, none⟩ (.bool p.nb)).setCell ⟨g, o + 2, none⟩ (.slice p.ao p.n p.ca)).setCell ⟨g, o + 3, none⟩ (.int .i64 p.e)
theorem only_set4' (w : World) (g o : Nat) (p : DP) : Only g w (set4 w g o p) := ((((Only.refl g w).setCell _ _).setCell _ _).setCell _ _).setCell _ _
theorem DB.set {w : World} {g : Nat} {l : List DP} (h : DB w g l) (j : Nat) (p : DP) : DB (set4 w g (4 * j) p) g (l.set j p) := by
  unfold DB at h ⊢
  unfold set4
  simp only [World.setCell, Array.getElem?_modify, if_true, h, Option.map_some]
  rw [← cells4_set]
  simp

theorem cells4_kind (l : List DP) (i : Nat) (x : Int) : (cells4 l)[i]? ≠ some (.int .u32 x) := by
  induction l generalizing i with
  | nil => simp [cells4]
  | cons p l ih =>
    match i with
    | 0 => simp [cells4]
    | 1 => simp [cells4]
    | 2 => simp [cells4]
    | 3 => simp [cells4]
    | i + 4 => simpa [cells4] using ih i
/-- limbs do not lie among dyads -/
theorem At.only_db {w w' : World} {g : Nat} {l : List DP} {ro : Option Addr} {zs : List Int} (hx : DB w g l) (h : At w ro zs) (ho : Only g w w') : At w' ro zs := by
  intro h0
  obtain ⟨b, off, e, hc⟩ := h h0
  refine ⟨b, off, e, fun j hj => ?_⟩
  have hne : b ≠ g := by
    rintro rfl
    have := hc j hj
    rw [cell_of_row w b (off + j) _ _ _ hx] at this
    simp only [List.getElem?_toArray] at this
    exact cells4_kind _ _ _ this
  rw [World.cell?_of_block (w := w) (ho.block b hne)]
  exact hc j hj
theorem Sl.only_db {w w' : World} {g k cr : Nat} {l : List DP} {ro : Option Addr} {zs : List Int} (h : Sl w ro k cr zs) (hx : DB w g l) (ho : Only g w w') : Sl w' ro k cr zs :=
  ⟨h.len, h.cap, h.big, h.wf, h.cells.only_db hx ho⟩
theorem Bn.only_db {w w' : World} {g k cr : Nat} {l : List DP} {mb : Bool} {ro : Option Addr} {x : Int} (h : Bn w mb ro k cr x) (hx : DB w g l) (ho : Only g w w') : Bn w' mb ro k cr x :=
  ⟨h.neg, h.sl.only_db hx ho⟩
theorem Dn.only_db {w w' : World} {g : Nat} {l : List DP} {v : Value} {d : Dy} (h : Dn w v d) (hx : DB w g l) (ho : Only g w w') : Dn w' v d := by
  obtain ⟨h0, nb, ao, n, ca, h1, h2⟩ := h
  exact ⟨h0, nb, ao, n, ca, h1, h2.only_db hx ho⟩

theorem Tryz.infoDyad : (Tryz.prog.info? 29).map (fun i => (i.zero, i.size, i.bytes)) = some (some (.agg #[.bool false, .bool false, .slice none 0 0, .int .i64 0]), 4, 48) := by kernel_rfl
theorem made4 (n : Nat) : (madeCells (Value.agg #[.bool false, .bool false, .slice none 0 0, .int .i64 0]).cells (n * 4)).toList = cells4 (List.replicate n DP.zero) := by
  apply List.ext_getElem?
  intro i
  by_cases hi : i < n * 4
  · obtain ⟨h0, h1, h2, h3⟩ := cells4_get (List.replicate n DP.zero) (i / 4) (by rw [List.length_replicate]; omega)
    have hg : (List.replicate n DP.zero).getD (i / 4) DP.zero = DP.zero := by simp [List.getD, show i / 4 < n by omega]
    rw [hg] at h0 h1 h2 h3
    have hl : (madeCells (Value.agg #[.bool false, .bool false, .slice none 0 0, .int .i64 0]).cells (n * 4)).toList[i]? = some (#[Value.bool false, .bool false, .slice none 0 0, .int .i64 0][i % 4]!) := by
      simp [madeCells, hi, Value.cells]
    rw [hl]
    have : i % 4 = 0 ∨ i % 4 = 1 ∨ i % 4 = 2 ∨ i % 4 = 3 := by omega
    rcases this with h | h | h | h
    · rw [show i = 4 * (i / 4) by omega, h0, show 4 * (i / 4) % 4 = 0 by omega]; rfl
    · rw [show i = 4 * (i / 4) + 1 by omega, h1, show (4 * (i / 4) + 1) % 4 = 1 by omega]; rfl
    · rw [show i = 4 * (i / 4) + 2 by omega, h2, show (4 * (i / 4) + 2) % 4 = 2 by omega]; rfl
    · rw [show i = 4 * (i / 4) + 3 by omega, h3, show (4 * (i / 4) + 3) % 4 = 3 by omega]; rfl
  · rw [List.getElem?_eq_none (by simp [size_madeCells]; omega), List.getElem?_eq_none (by rw [cells4_len, List.length_replicate]; omega)]
set_option maxRecDepth 100000 in
/-- a new array of dyads -/
theorem run_make_dyads (k n : Nat) (hk : k ≤ n) (hn : n ≤ 1000000) : ∃ O, (∀ w, (Instr.makeSlice 48 (.int .i64 (k : Int)) (.int .i64 (n : Int))).run Tryz.prog w = .ok (.slice (some ⟨w.heap.size, 0, none⟩) k n) (w.alloc O)) ∧ ∀ w : World, DB (w.alloc O) w.heap.size (List.replicate n DP.zero) := by
  obtain ⟨i0, hi, hz0, hz1, hz2⟩ := info_parts Tryz.infoDyad
  have h := fun w => run_make (P := Tryz.prog) w 48 29 i0 _ Tryz.underlying48 hi hz0 .i64 .i64 (k : Int) (n : Int) (by omega) (by omega) (by rw [hz2]; omega) (by omega)
  simp only [Int.toNat_natCast] at h
  refine ⟨_, h, fun w => ?_⟩
  unfold DB
  rw [heap_alloc_new, hz1]
  congr 2
  apply Array.ext'
  rw [made4]

theorem wpList_make_dyads (w : World) {ops : Array Oper} {rest : List Oper} {o : Oper} {a : Act} {Q : Exit → Act → World → Prop}
    (hg : o.guard = none) (l c : Operand) (hop : o.op = Op.makeSlice 48 l c) (K L : Int) (k n : Nat)
    (hl : a.eval l = .int .i64 K) (hc : a.eval c = .int .i64 L) (hK : K = (k : Int)) (hL : L = (n : Int)) (hkn : k ≤ n) (hn : n ≤ 1000000)
    (hN : ∀ w', DB w' w.heap.size (List.replicate n DP.zero) → Below w.heap.size w w' → w'.heap.size = w.heap.size + 1 → wpList Tryz.prog ops Q rest (a.put o.dst (.slice (some ⟨w.heap.size, 0, none⟩) k n)) w') :
    wpList Tryz.prog ops Q (o :: rest) a w := by
  subst hK
  subst hL
  obtain ⟨O, hrun, hnew⟩ := run_make_dyads k n hkn hn
  refine wpList_plain hg fun K hK' => ?_
  unfold Oper.wp
  simp [execOp, hop, hl, hc, hrun, Result.andThen]
  exact hK' _ _ (hN _ (hnew w) ((Below.refl _ w).alloc (Nat.le_refl _) _) (by simp))

theorem cells4_oneCell (l : List DP) : ∀ u ∈ cells4 l, u.oneCell' = true := by
  induction l with
  | nil => intro u hu; cases hu
  | cons p l ih =>
    intro u hu
    simp only [cells4, List.mem_cons] at hu
    rcases hu with rfl | rfl | rfl | rfl | hu <;> first | rfl | exact ih u hu

/-- the slice reads as the dyads D, which need not be normalized -/
structure DSl (w : World) (ao : Option Addr) (n cap : Nat) (l : List DP) (D : List Dy) : Prop where
  len : l.length = n
  lenD : D.length = n
  cap : n ≤ cap
  cells : 0 < n → ∃ b off, ao = some ⟨b, off, none⟩ ∧ ∀ j, j < n → w.cell? ⟨b, off + 4 * j, none⟩ = some (.bool (l.getD j DP.zero).bb) ∧ w.cell? ⟨b, off + 4 * j + 1, none⟩ = some (.bool (l.getD j DP.zero).nb) ∧
    w.cell? ⟨b, off + 4 * j + 2, none⟩ = some (.slice (l.getD j DP.zero).ao (l.getD j DP.zero).n (l.getD j DP.zero).ca) ∧ w.cell? ⟨b, off + 4 * j + 3, none⟩ = some (.int .i64 (l.getD j DP.zero).e)
  reads : ∀ j, j < n → Dg w (l.getD j DP.zero).v (D.getD j none)

theorem DSl.below {w w' : World} {ao : Option Addr} {n cap : Nat} {l : List DP} {D : List Dy} (h : DSl w ao n cap l D) (hb : Ext w w') : DSl w' ao n cap l D :=
  ⟨h.len, h.lenD, h.cap, fun h0 => by
    obtain ⟨b, off, e, hc⟩ := h.cells h0
    refine ⟨b, off, e, fun j hj => ?_⟩
    obtain ⟨c0, c1, c2, c3⟩ := hc j hj
    exact ⟨by rw [hb.cell (p := ⟨b, _, none⟩) (lt_of_cell c0)]; exact c0, by rw [hb.cell (p := ⟨b, _, none⟩) (lt_of_cell c1)]; exact c1, by rw [hb.cell (p := ⟨b, _, none⟩) (lt_of_cell c2)]; exact c2, by rw [hb.cell (p := ⟨b, _, none⟩) (lt_of_cell c3)]; exact c3⟩,
   fun j hj => (h.reads j hj).ext hb⟩
theorem DSl.at {w : World} {ao : Option Addr} {n cap : Nat} {l : List DP} {D : List Dy} (h : DSl w ao n cap l D) (j : Nat) (hj : j < n) : ∃ b off bb nb bo m cb e, ao = some ⟨b, off, none⟩ ∧
    w.cell? ⟨b, off + 4 * j, none⟩ = some (.bool bb) ∧ w.cell? ⟨b, off + 4 * j + 1, none⟩ = some (.bool nb) ∧ w.cell? ⟨b, off + 4 * j + 2, none⟩ = some (.slice bo m cb) ∧ w.cell? ⟨b, off + 4 * j + 3, none⟩ = some (.int .i64 e) ∧
    Dg w (.agg #[.bool bb, .bool nb, .slice bo m cb, .int .i64 e]) (D.getD j none) := by
  obtain ⟨b, off, e, hc⟩ := h.cells (by omega)
  obtain ⟨c0, c1, c2, c3⟩ := hc j hj
  exact ⟨b, off, _, _, _, _, _, _, e, c0, c1, c2, c3, h.reads j hj⟩
/-- the first k of a block of the call's own, read as a slice -/
theorem DB.sl {w : World} {g k cap : Nat} {l : List DP} {D : List Dy} (h : DB w g l) (hk : k ≤ l.length) (hD : D.length = k) (hc : k ≤ cap) (hr : ∀ j, j < k → Dg w (l.getD j DP.zero).v (D.getD j none)) : DSl w (some ⟨g, 0, none⟩) k cap (l.take k) D :=
  ⟨by rw [List.length_take]; omega, hD, hc, fun _ => ⟨g, 0, rfl, fun j hj => by
    have := h.c j (by omega)
    have e : (l.take k).getD j DP.zero = l.getD j DP.zero := by simp [List.getD, hj]
    simp only [Nat.zero_add]; rw [e]; exact this⟩, fun j hj => by
    have e : (l.take k).getD j DP.zero = l.getD j DP.zero := by simp [List.getD, hj]
    rw [e]; exact hr j hj⟩

/-- a dyad is appended where there is room -/
theorem wpList_append_dyad (w : World) {ops : Array Oper} {rest : List Oper} {o : Oper} {a : Act} {Q : Exit → Act → World → Prop}
    (hg : o.guard = none) (s x : Operand) (hop : o.op = Op.call { callee := Callee.builtin Builtin.append, args := #[s, x], argTypes := #[48, 48] })
    (g k cap c : Nat) (l : List DP) (p : DP) (hs : a.eval s = .slice (some ⟨g, 0, none⟩) k cap) (hb : DB w g l) (hl : l.length = cap) (hk : k < cap)
    (C : Nat) (hx : a.eval x = .slice (some ⟨C, 0, none⟩) 1 c) (hC : DB w C [p])
    (hN : wpList Tryz.prog ops Q rest (a.put o.dst (.slice (some ⟨g, 0, none⟩) (k + 1) cap)) (set4 w g (4 * k) p)) :
    wpList Tryz.prog ops Q (o :: rest) a w := by
  obtain ⟨i0, hi, hz0, hz1, hz2⟩ := info_parts Tryz.infoDyad
  obtain ⟨d0, d1, d2, d3⟩ := hC.c 0 (by simp)
  obtain ⟨c0, c1, c2, c3⟩ := hb.c k (by omega)
  simp only [Nat.mul_zero, Nat.zero_add] at d0 d1 d2 d3
  have hrun := run_append_room_cells (P := Tryz.prog) w 48 o.type 29 i0 Tryz.underlying48 hi g 0 k cap ⟨C, 0, none⟩ 1 c (cells4 [p]) (by rw [hz1]; rfl)
    (by
      intro j u hj
      rw [Addr.add_lit, Nat.zero_add]
      match j with
      | 0 => simp [cells4] at hj; subst hj; exact d0
      | 1 => simp [cells4] at hj; subst hj; exact d1
      | 2 => simp [cells4] at hj; subst hj; exact d2
      | 3 => simp [cells4] at hj; subst hj; exact d3
      | j + 4 => simp [cells4] at hj)
    (cells4_oneCell _) (by omega)
    (by
      intro j hj
      rw [hz1, Nat.zero_add, Nat.mul_comm k 4]
      match j, hj with
      | 0, _ => rw [Nat.add_zero, c0]; rfl
      | 1, _ => rw [c1]; rfl
      | 2, _ => rw [c2]; rfl
      | 3, _ => rw [c3]; rfl
      | j + 4, hj => exfalso; simp [cells4] at hj; omega)
    (fun j _ => hb.f _)
  rw [hz1, Nat.zero_add, Nat.mul_comm k 4] at hrun
  refine wpList_plain hg fun K hK' => ?_
  unfold Oper.wp
  simp [execOp, hop, resolve, invoke, builtin, hs, hx, hrun, Result.andThen]
  exact hK' _ _ hN
end Go.Proofs.YtapcecjbmcoliaaGreatDoor
