import Derived.Test.YtlpclahlolhjfaaGreatDoorMoCoU6
import Derived.Test.YtlpclahlolhjfaaGreatDoorMoCoU7
import Derived.Test.YtlpclahlolhjfaaGreatDoorMoCoU11
import Derived.Test.YtlpclahlolhjfaaGreatDoorMoCoU12
import Derived.Test.YtlpclahlolhjfaaGreatDoorMoCoU10
import Derived.Test.YtlpclahlolhjfaaGreatDoorMoCoU2
import Derived.Shelf.Spec.TrailingZeros
import Derived.Test.YtlpclahlolhjfaaGreatDoorMoCoU0
import Derived.WalkKit
import Derived.WalkSmall
import Derived.Lib.Hide
import Derived.Deep.RegionLaw
import Derived.Deep.Onto
namespace Go.Proofs.YtlpclahlolhjfaaGreatDoor
open Go.RowKit

section
variable {W w : World} {L : List Ent} {u v : Value} {x y : Int} {N M : Nat} {c d : Bool}

theorem cmp_bag (h : St W w L) (h1 : ⟨u, x, N, c⟩ ∈ L) (h2 : ⟨v, y, M, d⟩ ∈ L) (s : Int) (hs : sgn3 x y = s) :
    Calls Tryz.prog 28 #[u, v] w fun e w' => e = .returned (.int .i64 s) ∧ St W w' L := by
  obtain ⟨nb, ao, n, ca, rfl, b1, n1, a1, _⟩ := h.bag _ h1
  obtain ⟨mb, bo, m, cb, rfl, b2, n2, a2, _⟩ := h.bag _ h2
  exact (cmp_any nb mb ao n ca bo m cb x y w b1 b2).mono fun e w' ⟨he, hw⟩ => ⟨by rw [he, hs], h.step hw⟩

end

theorem St.alloc {W w : World} {L : List Ent} (h : St W w L) (o : Obj) : St W (w.alloc o) L := h.step ((Below.refl _ w).alloc (Nat.le_refl _) o)

theorem Ent.Ok.only_box {w w' : World} {p : Ent} {g : Nat} {nb : Bool} {ao : Option Addr} {n ca : Nat} (h : p.Ok w) (hb : Box w g nb ao n ca) (ho : Only g w w') : p.Ok w' := by
  obtain ⟨nb, ao, n, ca, h1, ⟨⟨zs, h2, h2'⟩, h2''⟩, h3, h4, h5⟩ := h
  exact ⟨nb, ao, n, ca, h1, ⟨⟨zs, h2.only_box hb ho, h2'⟩, h2''⟩, h3, h4, fun e => ⟨(h5 e).neg, (h5 e).sl.only_box hb ho⟩⟩

/-- a variable of this call's own is written -/
theorem St.stored {W w : World} {L : List Ent} {g : Nat} {nb : Bool} {ao : Option Addr} {n ca : Nat} (h : St W w L) (hb : Box w g nb ao n ca) (hg : W.heap.size ≤ g) (mb : Bool) (bo : Option Addr) (m cb : Nat) :
    St W ((w.setCell ⟨g, 0, none⟩ (.bool mb)).setCell ⟨g, 1, none⟩ (.slice bo m cb)) L :=
  ⟨Below.trans h.ext ((only_set2 w g _ _).below hg), fun p hp => (h.bag p hp).only_box hb (only_set2 w g _ _)⟩

end Go.Proofs.YtlpclahlolhjfaaGreatDoor

namespace Go.Proofs.YtlpclahlolhjfaaGreatDoor
open Go.RowKit

/-- how many bits a number has -/
def blen (a : Nat) : Nat := if a = 0 then 0 else Nat.log2 a + 1

end Go.Proofs.YtlpclahlolhjfaaGreatDoor

namespace Go.Proofs.YtlpclahlolhjfaaGreatDoor
open Go.RowKit

/-- the number of trailing zeros -/
def IsTz (a t : Nat) : Prop := (a = 0 ∧ t = 0) ∨ (a ≠ 0 ∧ ∃ m, a = 2 ^ t * (2 * m + 1))

theorem IsTz.mul {a t : Nat} (h : IsTz a t) (h0 : a ≠ 0) (k : Nat) : IsTz (a * 2 ^ k) (t + k) := by
  rcases h with ⟨e, _⟩ | ⟨_, m, hm⟩
  · exact absurd e h0
  · refine Or.inr ⟨Nat.mul_ne_zero h0 (by simp), m, ?_⟩
    rw [hm, Nat.pow_add, Nat.mul_right_comm]

end Go.Proofs.YtlpclahlolhjfaaGreatDoor

namespace Go.Proofs.YtlpclahlolhjfaaGreatDoor
open Go.RowKit

theorem limbs_len_toNat {zs : List Int} (h : Wf zs) : (limbs (num zs).toNat).length ≤ zs.length := by
  rw [tlen_eq h]; exact tlen_le _ _

end Go.Proofs.YtlpclahlolhjfaaGreatDoor

namespace Go.Proofs.YtlpclahlolhjfaaGreatDoor
open Go Go.RowKit

theorem Tryz.infoInt : (Tryz.prog.info? 3).map (fun i => (i.zero, i.size, i.bytes)) = some (some (.int .i64 0), 1, 8) := by kernel_rfl

/-- the slice reads as these ints -/
structure Ns (w : World) (ao : Option Addr) (n cap : Nat) (l : List Int) : Prop where
  len : l.length = n
  cap : n ≤ cap
  cells : 0 < n → ∃ b off, ao = some ⟨b, off, none⟩ ∧ ∀ j, j < n → w.cell? ⟨b, off + j, none⟩ = some (.int .i64 (l.getD j 0))
theorem Ns.below {w w' : World} {ao : Option Addr} {n cap : Nat} {l : List Int} (h : Ns w ao n cap l) (hb : Ext w w') : Ns w' ao n cap l :=
  ⟨h.len, h.cap, fun h0 => by
    obtain ⟨b, off, e, hc⟩ := h.cells h0
    refine ⟨b, off, e, fun j hj => ?_⟩
    have := hc j hj
    rw [hb.cell (p := ⟨b, off + j, none⟩) (lt_of_cell this)]
    exact this⟩

/-- the call owns the slice v with these indices -/
def OI (w : World) (B : Nat) (v : Value) (L : List Nat) : Prop := w.ownsRow B 3 1 v L.length (L.map fun (f : Nat) => Value.int .i64 (f : Int))
theorem OI.nil (w : World) (B : Nat) : OI w B (.slice none 0 0) [] := World.ownsRow_nil w B _ _
theorem OI.below {w w' : World} {B : Nat} {v : Value} {L : List Nat} (h : OI w B v L) (hb : Ext w w') : OI w' B v L := by
  obtain ⟨h1, h2⟩ := h
  refine ⟨h1, ?_⟩
  rcases h2 with h2 | ⟨g, cap, cur, hv, hbb, hg, r⟩
  · exact .inl h2
  · exact .inr ⟨g, cap, cur, hv, hbb, by rw [hb.block g (Array.getElem?_eq_some_iff.1 hg).1]; exact hg, r⟩
theorem OI.kept {w w' : World} {B C : Nat} {v : Value} {L : List Nat} (h : OI w B v L) (hb : Below C w w') (hlt : ∀ k, v.ownBlock = some k → k < C) : OI w' B v L := by
  obtain ⟨h1, h2⟩ := h
  refine ⟨h1, ?_⟩
  rcases h2 with h2 | ⟨g, cap, cur, hv, hbb, hg, r⟩
  · exact .inl h2
  · exact .inr ⟨g, cap, cur, hv, hbb, by rw [hb.block g (hlt g (by rw [hv]; rfl))]; exact hg, r⟩
theorem OI.only {w w' : World} {B g' : Nat} {v : Value} {L : List Nat} (h : OI w B v L) (ho : w.grownBy w' (some g')) (hne : v.ownBlock ≠ some g') : OI w' B v L := World.ownsRow.kept h ho (.inr hne)
/-- written out -/
theorem OI.form {w : World} {B : Nat} {v : Value} {L : List Nat} (h : OI w B v L) (h0 : L ≠ []) : ∃ g cap, v = .slice (some ⟨g, 0, none⟩) L.length cap ∧ B ≤ g ∧ g < w.heap.size ∧ L.length ≤ cap ∧ (∀ j, j < L.length → w.cell? ⟨g, j, none⟩ = some (.int .i64 ((L.getD j 0 : Nat) : Int))) := by
  obtain ⟨h1, h2⟩ := h
  rcases h2 with ⟨rfl, hl⟩ | ⟨g, cap, cur, rfl, hb, hg, hn, hm, hs, ht⟩
  · exact absurd (List.eq_nil_of_length_eq_zero hl) h0
  · refine ⟨g, cap, rfl, hb, (Array.getElem?_eq_some_iff.1 hg).1, hn, fun j hj => ?_⟩
    rw [cell_of_row w g j _ _ _ hg]
    have : (cur.toList.take (L.length * 1))[j]? = (L.map fun (f : Nat) => Value.int .i64 (f : Int))[j]? := by rw [ht]
    rw [List.getElem?_take, if_pos (by omega)] at this
    simp only [Array.getElem?_toList] at this
    rw [this]
    simp [List.getD, hj]

theorem wpList_append_int (w0 : World) {ops : Array Oper} {rest : List Oper} {o : Oper} {a : Act} {Q : Exit → Act → World → Prop} (hgd : o.guard = none) (s x : Operand)
    (ho : o.op = .call { callee := .builtin .append, args := #[s, x], argTypes := #[22, 22] })
    (B : Nat) (v : Value) (L : List Nat) (y : Nat) (hs : a.eval s = v) (hx : a.eval x = .slice (some ⟨w0.heap.size, 0, none⟩) 1 1) (hown : OI w0 B v L) (hB : B ≤ w0.heap.size) (hL : L.length ≤ 1000000)
    (h : ∀ v' w', OI w' B v' (L ++ [y]) → Below B w0 w' → wpList Tryz.prog ops Q rest (a.put o.dst v') w') :
    wpList Tryz.prog ops Q (o :: rest) a (w0.alloc (.cells #[.int .i64 (y : Int)] 3)) := by
  obtain ⟨i0, hi, hz0, hz1, hz2⟩ := info_parts Tryz.infoInt
  refine wpList_append_own _ hgd s x 22 ho B 3 i0 (.int .i64 0) 1 8 Tryz.underlying22 hi hz0 hz1 hz2 rfl (by decide) v L.length _ hs (World.ownsRow.alloc hown _) ⟨w0.heap.size, 0, none⟩ 1 1 [.int .i64 (y : Int)] hx rfl ?_ ?_ (by unfold maxLen; omega) (by omega) (by simp; omega) ?_
  · intro j u hj
    have hn : (w0.alloc (.cells #[.int .i64 (y : Int)] 3)).heap[w0.heap.size]? = some (.cells #[.int .i64 (y : Int)] 3 (0, 0)) := heap_alloc_new w0 _
    rcases j with _ | j
    · rw [Addr.add_lit, Nat.zero_add, cell_of_row _ w0.heap.size 0 _ _ _ hn]; exact hj
    · simp at hj
  · intro u hu; rw [List.mem_singleton] at hu; subst hu; rfl
  · intro v' w' r1 r2 _
    refine h v' w' ?_ ?_
    · unfold OI
      rw [List.length_append, List.map_append]
      exact r1
    · refine ((Below.refl B w0).alloc hB _).grown r2 (by simp; omega) ?_
      intro k hk
      exact (World.ownsRow.lt hown k hk).1

end Go.Proofs.YtlpclahlolhjfaaGreatDoor

namespace Go.Proofs.YtlpclahlolhjfaaGreatDoor
open Go.ChangeShapes Go.WideShapes Go.ChangeAt Go.RowKit Go.Joins Go.Deep

theorem Tryz.readInts : Tryz.prog.readableRec 22 = true := by kernel_rfl
theorem Tryz.sizeInts : 22 < Tryz.prog.types.size := of_decide_eq_true (by kernel_rfl)

set_option maxRecDepth 100000 in
/-- a list of ints that came in -/
theorem raw_ints {H : Type} {enc : TypeId × Value → H} {W : World} {base : Nat} {v : Value} {d : DataW H} {p : List MemPlace} (hv : Value.okWide Tryz.prog W .any base 22 v)
    (h : DataW.Trod enc Tryz.prog W 0 (fun _ => true) true 22 v d p) : ∃ ao n ca, v = .slice ao n ca ∧ ∃ l, Ns W ao n ca l := by
  obtain ⟨a0, len0, cap0, rfl⟩ := okWide_slice Tryz.underlying22 hv
  refine ⟨a0, len0, cap0, rfl, ?_⟩
  obtain ⟨fuel, hf⟩ := h
  rcases open_ints Tryz.underlying22 Tryz.underlying3 Tryz.cellsInt hf with ⟨e1, _⟩ | ⟨a, len, cap, zs, e1, _, hl, _, hz, _, hcell, hwz⟩
  · simp [Value.cells] at e1
    obtain ⟨rfl, rfl, rfl⟩ := e1
    exact ⟨[], rfl, Nat.le_refl _, fun h => absurd h (by simp)⟩
  · simp [Value.cells] at e1
    obtain ⟨rfl, rfl, rfl⟩ := e1
    simp only [if_true] at hz
    refine ⟨zs.take len0, by rw [List.length_take]; omega, hl, fun h0 => ?_⟩
    obtain ⟨b, off, rfl, hc⟩ := ints_at hcell (by omega)
    refine ⟨b, off, rfl, fun j hj => ?_⟩
    have e : (zs.take len0).getD j 0 = zs.getD j 0 := by simp [List.getD, hj]
    rw [e]
    exact hc j (by omega)
end Go.Proofs.YtlpclahlolhjfaaGreatDoor

namespace Go.Proofs.YtlpclahlolhjfaaGreatDoor
open Go.ChangeShapes Go.WideShapes Go.ChangeAt Go.RowKit Go.Joins Go.Deep

set_option maxRecDepth 100000 in
/-- a list of ints that came in -/
theorem raw_ints_b {H : Type} {enc : TypeId × Value → H} {W : World} {base : Nat} {v : Value} {d : DataW H} {p : List MemPlace} (hv : Value.okWide Tryz.prog W .any base 22 v)
    (h : DataW.Trod enc Tryz.prog W 0 (fun _ => true) true 22 v d p) : ∃ ao n ca, v = .slice ao n ca ∧ ∃ l, Ns W ao n ca l ∧ ∀ z ∈ l, -9223372036854775808 ≤ z ∧ z ≤ 9223372036854775807 := by
  obtain ⟨a0, len0, cap0, rfl⟩ := okWide_slice Tryz.underlying22 hv
  refine ⟨a0, len0, cap0, rfl, ?_⟩
  obtain ⟨fuel, hf⟩ := h
  rcases open_ints Tryz.underlying22 Tryz.underlying3 Tryz.cellsInt hf with ⟨e1, _⟩ | ⟨a, len, cap, zs, e1, _, hl, _, hz, _, hcell, hwz⟩
  · simp [Value.cells] at e1
    obtain ⟨rfl, rfl, rfl⟩ := e1
    exact ⟨[], ⟨rfl, Nat.le_refl _, fun h => absurd h (by simp)⟩, fun z hz => by cases hz⟩
  · simp [Value.cells] at e1
    obtain ⟨rfl, rfl, rfl⟩ := e1
    simp only [if_true] at hz
    refine ⟨zs.take len0, ⟨by rw [List.length_take]; omega, hl, fun h0 => ?_⟩, fun z hz => bounds_i64 (hwz z (List.mem_of_mem_take hz))⟩
    obtain ⟨b, off, rfl, hc⟩ := ints_at hcell (by omega)
    refine ⟨b, off, rfl, fun j hj => ?_⟩
    have e : (zs.take len0).getD j 0 = zs.getD j 0 := by simp [List.getD, hj]
    rw [e]
    exact hc j (by omega)
end Go.Proofs.YtlpclahlolhjfaaGreatDoor
