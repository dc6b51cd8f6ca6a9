import Derived.Test.YtapcecjbmcoliaaGrLlU0
import Derived.WalkKit
import Derived.WalkSmall
import Derived.Laws.CopyOwn
import Derived.Lib.Hide
import Derived.Deep.QuietTactic
import Derived.BigQuiet
namespace Go.Proofs.Ytapcecjbmcoliaa
open Go Go.RowKit

/-- at address ao lie the limbs zs -/
def At (w : World) (ao : Option Addr) (zs : List Int) : Prop :=
  0 < zs.length → ∃ b off, ao = some ⟨b, off, none⟩ ∧ ∀ j, j < zs.length → w.cell? ⟨b, off + j, none⟩ = some (.int .u32 (zs.getD j 0))

/-- the slice with address ao, length n and capacity cap reads as the limbs zs -/
structure Sl (w : World) (ao : Option Addr) (n cap : Nat) (zs : List Int) : Prop where
  len : zs.length = n
  cap : n ≤ cap
  big : n ≤ 1099511627776
  wf : Wf zs
  cells : At w ao zs

/-- only block g may have changed -/
structure Only (g : Nat) (w w' : World) : Prop where
  os : w'.os = w.os
  tape : w'.tape = w.tape
  output : w'.output = w.output
  size : w'.heap.size = w.heap.size
  block : ∀ k, k ≠ g → w'.heap[k]? = w.heap[k]?

theorem Only.refl (g : Nat) (w : World) : Only g w w := ⟨rfl, rfl, rfl, rfl, fun _ _ => rfl⟩
theorem Only.trans {g : Nat} {a b c : World} (h : Only g a b) (k : Only g b c) : Only g a c :=
  ⟨k.os.trans h.os, k.tape.trans h.tape, k.output.trans h.output, k.size.trans h.size, fun i hi => (k.block i hi).trans (h.block i hi)⟩
theorem Only.below {g B : Nat} {w w' : World} (h : Only g w w') (hB : B ≤ g) : Below B w w' :=
  ⟨h.os, h.tape, h.output, by rw [h.size]; exact Nat.le_refl _, fun k hk => h.block k (by omega)⟩
theorem Only.setCell {g : Nat} {a w : World} (h : Only g a w) (o : Nat) (u : Value) : Only g a (w.setCell ⟨g, o, none⟩ u) :=
  h.trans ⟨rfl, rfl, rfl, by simp [World.setCell], fun k hk => Below.heap_setCell _ _ _ _ (by simpa using hk)⟩
theorem Only.drew {g : Nat} {a w : World} (h : Only g a w) : Only g a w.drew := ⟨h.os, h.tape, h.output, h.size, h.block⟩
theorem Only.drewN {g : Nat} {a w : World} (h : Only g a w) (n : Nat) : Only g a (w.drewN n) := ⟨h.os, h.tape, h.output, h.size, h.block⟩

theorem lt_of_cell {w : World} {b o : Nat} {v : Value} (h : w.cell? ⟨b, o, none⟩ = some v) : b < w.heap.size := World.block_lt_of_cell? w _ h

theorem At.below {w w' : World} {ao : Option Addr} {zs : List Int} (h : At w ao zs) (hb : Below w.heap.size w w') : At w' ao zs := by
  intro h0
  obtain ⟨b, off, e, hc⟩ := h h0
  refine ⟨b, off, e, fun j hj => ?_⟩
  have := hc j hj
  rw [hb.cell (p := ⟨b, off + j, none⟩) (lt_of_cell this)]
  exact this

theorem Sl.below {w w' : World} {ao : Option Addr} {n cap : Nat} {zs : List Int} (h : Sl w ao n cap zs) (hb : Below w.heap.size w w') : Sl w' ao n cap zs :=
  ⟨h.len, h.cap, h.big, h.wf, h.cells.below hb⟩
theorem Sl.nil (w : World) : Sl w none 0 0 [] := ⟨rfl, Nat.le_refl _, by simp, Wf.nil, fun h => absurd h (by simp)⟩
theorem take_getD (zs : List Int) (k j : Nat) (h : j < k) : (zs.take k).getD j 0 = zs.getD j 0 := by
  simp [List.getD, h]

theorem At.take {w : World} {ao : Option Addr} {zs : List Int} (h : At w ao zs) (k : Nat) : At w ao (zs.take k) := by
  intro h0
  rw [List.length_take] at h0
  obtain ⟨b, off, e, hc⟩ := h (by omega)
  refine ⟨b, off, e, fun j hj => ?_⟩
  rw [List.length_take] at hj
  rw [take_getD zs k j (by omega)]
  exact hc j (by omega)

theorem Sl.take {w : World} {ao : Option Addr} {n cap : Nat} {zs : List Int} (h : Sl w ao n cap zs) (k : Nat) (hk : k ≤ n) : Sl w ao k cap (zs.take k) :=
  ⟨by rw [List.length_take, h.len, Nat.min_eq_left hk], by have := h.cap; omega, by have := h.big; omega, h.wf.take k, h.cells.take k⟩

theorem quiet_left {P : Program} {f : FuncId} {args : Array Value} {w : World} {n : Nat} {v : Value}
    (h : Calls P f args (w.drewN n) fun e w' => e = .returned v ∧ w.drewN n = w') : Calls P f args (w.drewN n) fun e w'' => e = .returned v ∧ ∃ m, w'' = w.drewN m :=
  h.mono fun _ _ ⟨he, hm⟩ => ⟨he, n, hm.symm⟩

/-- the sign and the limbs zs stand for x -/
def sgd (nb : Bool) (zs : List Int) : Int := if nb then - num zs else num zs

/-- an integer, normalized or not, that stands for x -/
structure Bg (w : World) (nb : Bool) (ao : Option Addr) (n cap : Nat) (x : Int) : Prop where
  ex : ∃ zs, Sl w ao n cap zs ∧ x = sgd nb zs
  small : n ≤ 1000000000

/-- the normalized integer x -/
structure Bn (w : World) (nb : Bool) (ao : Option Addr) (n cap : Nat) (x : Int) : Prop where
  neg : nb = decide (x < 0)
  sl : Sl w ao n cap (limbs x.natAbs)

theorem Bg.below {w w' : World} {nb : Bool} {ao : Option Addr} {n cap : Nat} {x : Int} (h : Bg w nb ao n cap x) (hb : Below w.heap.size w w') : Bg w' nb ao n cap x := by
  obtain ⟨⟨zs, h1, h2⟩, h3⟩ := h
  exact ⟨⟨zs, h1.below hb, h2⟩, h3⟩
theorem Bn.below {w w' : World} {nb : Bool} {ao : Option Addr} {n cap : Nat} {x : Int} (h : Bn w nb ao n cap x) (hb : Below w.heap.size w w') : Bn w' nb ao n cap x :=
  ⟨h.neg, h.sl.below hb⟩

theorem Sl.drew {w : World} {ao : Option Addr} {n cap : Nat} {zs : List Int} (h : Sl w ao n cap zs) : Sl w.drew ao n cap zs := h.below (Below.refl _ _).drew
theorem Sl.drewN {w : World} {ao : Option Addr} {n cap : Nat} {zs : List Int} (h : Sl w ao n cap zs) (q : Nat) : Sl (w.drewN q) ao n cap zs := h.below (below_drewN (Below.refl _ _) q)

theorem only_set1 (w : World) (g o : Nat) (u : Value) : Only g w (w.setCell ⟨g, o, none⟩ u) := (Only.refl g w).setCell _ _
end Go.Proofs.Ytapcecjbmcoliaa
