import Derived.Test.YtolghagbpnjpgaaDoorIMonoU0
import Derived.WalkKit
import Derived.WalkSmall
import Derived.Laws.CopyOwn
import Derived.Lib.Hide
import Derived.Deep.QuietTactic
import Derived.BigQuiet
import Derived.Test.YtolghagbpnjpgaaDoorCards
import Derived.Test.YtolghagbpnjpgaaDoorTie
import Derived.ProofKit
import Derived.OpenShut
import Derived.Deep.DeepHandedRow
import Derived.Lib.LaidTab
import Derived.Lib.SmallJoins
import Derived.LaidMore
import Derived.Test.YtolghagbpnjpgaaDoorRows
import Derived.WalkSpells
import Derived.WalkLawsBesides
import Derived.Shelf.Spec.TrailingZeros
namespace Go.Proofs.YtolghagbpnjpgaaDoor
open Go Go.RowKit

/-- at address ao lie the limbs zs -/
def At (w : World) (ao : Option Addr) (zs : List Int) : Prop :=
  0 < zs.length → ∃ b off, ao = some ⟨b, off, none⟩ ∧ ∀ j, j < zs.length → w.cell? ⟨b, off + j, none⟩ = some (.int .u32 (zs.getD j 0))

/-- the slice with address ao, length n and capacity cap reads as the limbs zs -/
structure Sl (w : World) (ao : Option Addr) (n cap : Nat) (zs : List Int) : Prop where
  len : zs.length = n
  cap : n ≤ cap
  big : n ≤ 1099511627776
  wf : Wf zs
  cells : At w ao zs

/-- block g holds the limbs L, and can be written -/
def Blk (w : World) (g : Nat) (L : List Int) : Prop := w.heap[g]? = some (.cells (L.map (Value.int .u32)).toArray 85 (0, 0))

/-- only block g may have changed -/
structure Only (g : Nat) (w w' : World) : Prop where
  os : w'.os = w.os
  tape : w'.tape = w.tape
  output : w'.output = w.output
  size : w'.heap.size = w.heap.size
  block : ∀ k, k ≠ g → w'.heap[k]? = w.heap[k]?

theorem Only.refl (g : Nat) (w : World) : Only g w w := ⟨rfl, rfl, rfl, rfl, fun _ _ => rfl⟩
theorem Only.trans {g : Nat} {a b c : World} (h : Only g a b) (k : Only g b c) : Only g a c :=
  ⟨k.os.trans h.os, k.tape.trans h.tape, k.output.trans h.output, k.size.trans h.size, fun i hi => (k.block i hi).trans (h.block i hi)⟩
theorem Only.below {g B : Nat} {w w' : World} (h : Only g w w') (hB : B ≤ g) : Below B w w' :=
  ⟨h.os, h.tape, h.output, by rw [h.size]; exact Nat.le_refl _, fun k hk => h.block k (by omega)⟩
theorem Only.setCell {g : Nat} {a w : World} (h : Only g a w) (o : Nat) (u : Value) : Only g a (w.setCell ⟨g, o, none⟩ u) :=
  h.trans ⟨rfl, rfl, rfl, by simp [World.setCell], fun k hk => Below.heap_setCell _ _ _ _ (by simpa using hk)⟩
theorem Only.drew {g : Nat} {a w : World} (h : Only g a w) : Only g a w.drew := ⟨h.os, h.tape, h.output, h.size, h.block⟩
theorem Only.drewN {g : Nat} {a w : World} (h : Only g a w) (n : Nat) : Only g a (w.drewN n) := ⟨h.os, h.tape, h.output, h.size, h.block⟩

theorem lt_of_cell {w : World} {b o : Nat} {v : Value} (h : w.cell? ⟨b, o, none⟩ = some v) : b < w.heap.size := World.block_lt_of_cell? w _ h

theorem At.below {w w' : World} {ao : Option Addr} {zs : List Int} (h : At w ao zs) (hb : Below w.heap.size w w') : At w' ao zs := by
  intro h0
  obtain ⟨b, off, e, hc⟩ := h h0
  refine ⟨b, off, e, fun j hj => ?_⟩
  have := hc j hj
  rw [hb.cell (p := ⟨b, off + j, none⟩) (lt_of_cell this)]
  exact this

theorem Sl.below {w w' : World} {ao : Option Addr} {n cap : Nat} {zs : List Int} (h : Sl w ao n cap zs) (hb : Below w.heap.size w w') : Sl w' ao n cap zs :=
  ⟨h.len, h.cap, h.big, h.wf, h.cells.below hb⟩
theorem Sl.nil (w : World) : Sl w none 0 0 [] := ⟨rfl, Nat.le_refl _, by simp, Wf.nil, fun h => absurd h (by simp)⟩
theorem take_getD (zs : List Int) (k j : Nat) (h : j < k) : (zs.take k).getD j 0 = zs.getD j 0 := by
  simp [List.getD, h]

theorem At.take {w : World} {ao : Option Addr} {zs : List Int} (h : At w ao zs) (k : Nat) : At w ao (zs.take k) := by
  intro h0
  rw [List.length_take] at h0
  obtain ⟨b, off, e, hc⟩ := h (by omega)
  refine ⟨b, off, e, fun j hj => ?_⟩
  rw [List.length_take] at hj
  rw [take_getD zs k j (by omega)]
  exact hc j (by omega)

theorem Blk.lt {w : World} {g : Nat} {L : List Int} (h : Blk w g L) : g < w.heap.size := (Array.getElem?_eq_some_iff.1 h).1

theorem Blk.cell {w : World} {g : Nat} {L : List Int} (h : Blk w g L) (j : Nat) (hj : j < L.length) : w.cell? ⟨g, j, none⟩ = some (.int .u32 (L.getD j 0)) := by
  rw [cell_of_row w g j _ _ _ h]
  simp [List.getD, hj]

theorem Blk.frozen {w : World} {g : Nat} {L : List Int} (h : Blk w g L) (j : Nat) : w.frozen? ⟨g, j, none⟩ = false := by
  unfold Blk at h
  simp [World.frozen?, h]

theorem Blk.kept {w w' : World} {g : Nat} {L : List Int} (h : Blk w g L) {B : Nat} (hb : Below B w w') (hg : g < B) : Blk w' g L := by
  unfold Blk; rw [hb.block g hg]; exact h
theorem Blk.below {w w' : World} {g : Nat} {L : List Int} (h : Blk w g L) (hb : Below w.heap.size w w') : Blk w' g L := h.kept hb h.lt
theorem Blk.only {w w' : World} {g k : Nat} {L : List Int} (h : Blk w g L) (hb : Only k w w') (hg : g ≠ k) : Blk w' g L := by
  unfold Blk; rw [hb.block g hg]; exact h
theorem Blk.drew {w : World} {g : Nat} {L : List Int} (h : Blk w g L) : Blk w.drew g L := h
theorem Blk.drewN {w : World} {g : Nat} {L : List Int} (h : Blk w g L) (n : Nat) : Blk (w.drewN n) g L := h

theorem Blk.set {w : World} {g : Nat} {L : List Int} (h : Blk w g L) (i : Nat) (x : Int) : Blk (w.setCell ⟨g, i, none⟩ (.int .u32 x)) g (L.set i x) := by
  unfold Blk at h ⊢
  simp only [World.setCell, Array.getElem?_modify, if_true, h, Option.map_some]
  congr 2
  apply Array.ext'
  simp [List.map_set]

theorem Blk.at {w : World} {g : Nat} {L : List Int} (h : Blk w g L) : At w (some ⟨g, 0, none⟩) L := fun _ => ⟨g, 0, rfl, fun j hj => by rw [Nat.zero_add]; exact h.cell j hj⟩

theorem Blk.sl {w : World} {g n cap : Nat} {L : List Int} (h : Blk w g L) (hw : Wf L) (hn : L.length = n) (hl : n ≤ 1099511627776) (hc : n ≤ cap) : Sl w (some ⟨g, 0, none⟩) n cap L :=
  ⟨hn, hc, hl, hw, h.at⟩

theorem Sl.take {w : World} {ao : Option Addr} {n cap : Nat} {zs : List Int} (h : Sl w ao n cap zs) (k : Nat) (hk : k ≤ n) : Sl w ao k cap (zs.take k) :=
  ⟨by rw [List.length_take, h.len, Nat.min_eq_left hk], by have := h.cap; omega, by have := h.big; omega, h.wf.take k, h.cells.take k⟩

/-- a new array of zeros -/
theorem blk_made {w : World} {n base g cap : Nat} (h : w.ownsRow base 85 1 (.slice (some ⟨g, 0, none⟩) n cap) n (madeCells (Value.int .u32 0).cells (n * 1)).toList) (hcap : cap = n) :
    Blk w g (List.replicate n 0) := by
  obtain ⟨_, h2⟩ := h
  rcases h2 with ⟨h0, _⟩ | ⟨g', cap', cur, hv, _, hh, _, _, hsz, htake⟩
  · cases h0
  · cases hv
    subst hcap
    unfold Blk
    rw [hh]
    rw [List.take_of_length_le (by simp [hsz])] at htake
    have : cur = (List.map (Value.int IntKind.u32) (List.replicate cap 0)).toArray := by
      apply Array.ext'
      rw [htake]
      simp [madeCells, Value.cells, Nat.mod_one, List.map_const']
    rw [this]

/-- the sign and the limbs zs stand for x -/
def sgd (nb : Bool) (zs : List Int) : Int := if nb then - num zs else num zs

/-- an integer, normalized or not, that stands for x -/
structure Bg (w : World) (nb : Bool) (ao : Option Addr) (n cap : Nat) (x : Int) : Prop where
  ex : ∃ zs, Sl w ao n cap zs ∧ x = sgd nb zs
  small : n ≤ 1000000000

/-- the normalized integer x -/
structure Bn (w : World) (nb : Bool) (ao : Option Addr) (n cap : Nat) (x : Int) : Prop where
  neg : nb = decide (x < 0)
  sl : Sl w ao n cap (limbs x.natAbs)

theorem Bg.below {w w' : World} {nb : Bool} {ao : Option Addr} {n cap : Nat} {x : Int} (h : Bg w nb ao n cap x) (hb : Below w.heap.size w w') : Bg w' nb ao n cap x := by
  obtain ⟨⟨zs, h1, h2⟩, h3⟩ := h
  exact ⟨⟨zs, h1.below hb, h2⟩, h3⟩
theorem Bn.below {w w' : World} {nb : Bool} {ao : Option Addr} {n cap : Nat} {x : Int} (h : Bn w nb ao n cap x) (hb : Below w.heap.size w w') : Bn w' nb ao n cap x :=
  ⟨h.neg, h.sl.below hb⟩

theorem sgd_natAbs {nb : Bool} {zs : List Int} (h : Wf zs) : (sgd nb zs).natAbs = (num zs).toNat := by
  have hn := num_nonneg h
  unfold sgd
  split <;> omega

/-- a sign and the limbs of a number: the number with this sign -/
theorem bn_of {w : World} {nb nr : Bool} {ro : Option Addr} {k cr a : Nat} {x : Int} (hs : Sl w ro k cr (limbs a)) (hnr : nr = (nb && decide (0 < k))) (hx : x = if nb then - (a : Int) else a) : Bn w nr ro k cr x := by
  have e : x.natAbs = a := by rw [hx]; split <;> omega
  refine ⟨?_, by rw [e]; exact hs⟩
  have hl := hs.len
  have h0 : a = 0 ↔ k = 0 := by
    rw [← hl]
    constructor
    · rintro rfl; simp [limbs_zero]
    · intro h; exact limbs_inj (by rw [limbs_zero]; exact List.eq_nil_of_length_eq_zero h)
  rw [hnr, hx]
  cases nb
  · simp <;> omega
  · simp <;> omega

theorem Bn.bg {w : World} {nb : Bool} {ao : Option Addr} {n cap : Nat} {x : Int} (h : Bn w nb ao n cap x) (hs : n ≤ 1000000000) : Bg w nb ao n cap x := by
  refine ⟨⟨_, h.sl, ?_⟩, hs⟩
  unfold sgd
  rw [num_limbs, h.neg]
  by_cases hx : x < 0
  · simp [hx] <;> omega
  · simp [hx] <;> omega

/-- block g holds the integer with this sign and these limbs, in a block of the call's own -/
def Box (W : World) (g : Nat) (nb : Bool) (ao : Option Addr) (n cap : Nat) : Prop := W.heap[g]? = some (.cells #[.bool nb, .slice ao n cap] 35 (0, 0))

theorem Box.c0 {W : World} {g : Nat} {nb : Bool} {ao : Option Addr} {n cap : Nat} (h : Box W g nb ao n cap) : W.cell? ⟨g, 0, none⟩ = some (.bool nb) := by
  rw [cell_of_row W g 0 _ _ _ h]; rfl
theorem Box.c1 {W : World} {g : Nat} {nb : Bool} {ao : Option Addr} {n cap : Nat} (h : Box W g nb ao n cap) : W.cell? ⟨g, 1, none⟩ = some (.slice ao n cap) := by
  rw [cell_of_row W g 1 _ _ _ h]; rfl
theorem Box.f {W : World} {g : Nat} {nb : Bool} {ao : Option Addr} {n cap : Nat} (h : Box W g nb ao n cap) (o : Nat) : W.frozen? ⟨g, o, none⟩ = false := by
  unfold Box at h; simp [World.frozen?, h]
theorem Box.new (w : World) (nb : Bool) (ao : Option Addr) (n cap : Nat) : Box (w.alloc (.cells #[.bool nb, .slice ao n cap] 35)) w.heap.size nb ao n cap := heap_alloc_new w _
theorem Box.kept {w w' : World} {B g : Nat} {nb : Bool} {ao : Option Addr} {n cap : Nat} (h : Box w g nb ao n cap) (hb : Below B w w') (hg : g < B) : Box w' g nb ao n cap := by
  unfold Box; rw [hb.block g hg]; exact h
theorem Box.lt {w : World} {g : Nat} {nb : Bool} {ao : Option Addr} {n cap : Nat} (h : Box w g nb ao n cap) : g < w.heap.size := lt_of_cell h.c0
theorem Box.below {w w' : World} {g : Nat} {nb : Bool} {ao : Option Addr} {n cap : Nat} (h : Box w g nb ao n cap) (hb : Below w.heap.size w w') : Box w' g nb ao n cap := h.kept hb h.lt
theorem Box.drew {w : World} {g : Nat} {nb : Bool} {ao : Option Addr} {n cap : Nat} (h : Box w g nb ao n cap) : Box w.drew g nb ao n cap := h
theorem Box.drewN {w : World} {g : Nat} {nb : Bool} {ao : Option Addr} {n cap : Nat} (h : Box w g nb ao n cap) (q : Nat) : Box (w.drewN q) g nb ao n cap := h
theorem Sl.drew {w : World} {ao : Option Addr} {n cap : Nat} {zs : List Int} (h : Sl w ao n cap zs) : Sl w.drew ao n cap zs := h.below (Below.refl _ _).drew
theorem Sl.drewN {w : World} {ao : Option Addr} {n cap : Nat} {zs : List Int} (h : Sl w ao n cap zs) (q : Nat) : Sl (w.drewN q) ao n cap zs := h.below (below_drewN (Below.refl _ _) q)

/-- limbs do not lie in a box -/
theorem At.only_box {w w' : World} {g : Nat} {nb : Bool} {ao ro : Option Addr} {n cap : Nat} {zs : List Int} (hx : Box w g nb ao n cap) (h : At w ro zs) (ho : Only g w w') : At w' ro zs := by
  intro h0
  obtain ⟨b, off, e, hc⟩ := h h0
  refine ⟨b, off, e, fun j hj => ?_⟩
  have hne : b ≠ g := by
    rintro rfl
    have := hc j hj
    rw [cell_of_row w b (off + j) _ _ _ hx] at this
    match off + j, this with
    | 0, this => simp at this
    | 1, this => simp at this
    | k + 2, this => simp at this
  rw [World.cell?_of_block (w := w) (ho.block b hne)]
  exact hc j hj
theorem Sl.only_box {w w' : World} {g : Nat} {nb : Bool} {ao ro : Option Addr} {n cap k cr : Nat} {zs : List Int} (h : Sl w ro k cr zs) (hx : Box w g nb ao n cap) (ho : Only g w w') : Sl w' ro k cr zs :=
  ⟨h.len, h.cap, h.big, h.wf, h.cells.only_box hx ho⟩
theorem only_set2 (w : World) (g : Nat) (u v : Value) : Only g w ((w.setCell ⟨g, 0, none⟩ u).setCell ⟨g, 1, none⟩ v) := ((Only.refl g w).setCell _ _).setCell _ _
theorem only_set1 (w : World) (g o : Nat) (u : Value) : Only g w (w.setCell ⟨g, o, none⟩ u) := (Only.refl g w).setCell _ _
theorem Box.only {w w' : World} {g k : Nat} {nb : Bool} {ao : Option Addr} {n cap : Nat} (h : Box w g nb ao n cap) (ho : Only k w w') (hne : g ≠ k) : Box w' g nb ao n cap := by
  unfold Box; rw [ho.block g hne]; exact h

theorem Box.stored {w : World} {g : Nat} {nb : Bool} {ao : Option Addr} {n cap : Nat} (h : Box w g nb ao n cap) (mb : Bool) (bo : Option Addr) (m cb : Nat) :
    Box ((w.setCell ⟨g, 0, none⟩ (.bool mb)).setCell ⟨g, 1, none⟩ (.slice bo m cb)) g mb bo m cb := by
  unfold Box at h ⊢
  simp [World.setCell, Array.getElem?_modify, h]
theorem Box.stored0 {w : World} {g : Nat} {nb : Bool} {ao : Option Addr} {n cap : Nat} (h : Box w g nb ao n cap) (mb : Bool) :
    Box (w.setCell ⟨g, 0, none⟩ (.bool mb)) g mb ao n cap := by
  unfold Box at h ⊢
  simp [World.setCell, Array.getElem?_modify, h]
theorem bnext {B : Nat} {w W W2 : World} (h : Below B w W) (hB : B ≤ W.heap.size) (h2 : Below W.heap.size W W2) : Below B w W2 ∧ B ≤ W2.heap.size := ⟨h.trans (h2.mono hB), by have := h2.size; omega⟩

/-- one argument boxed, and the place of the result -/
theorem boxes1 (w : World) (nb : Bool) (ao : Option Addr) (n cap : Nat) :
    ∃ W, W = (w.alloc (.cells #[.bool nb, .slice ao n cap] 35)).alloc (.cells #[.bool false, .slice none 0 0] 35) ∧ Below w.heap.size w W ∧ Box W w.heap.size nb ao n cap ∧ Box W (w.heap.size + 1) false none 0 0 ∧ w.heap.size + 2 ≤ W.heap.size := by
  refine ⟨_, rfl, ((Below.refl _ w).alloc (Nat.le_refl _) _).alloc (by simp) _, ?_, ?_, by simp⟩
  · exact (Box.new w nb ao n cap).below ((Below.refl _ _).alloc (Nat.le_refl _) _)
  · have := Box.new (w.alloc (.cells #[.bool nb, .slice ao n cap] 35)) false none 0 0
    simpa using this

/-- two arguments boxed, and the place of the result -/
theorem boxes2 (w : World) (nb : Bool) (ao : Option Addr) (n cap : Nat) (mb : Bool) (bo : Option Addr) (m cb : Nat) :
    ∃ W, W = ((w.alloc (.cells #[.bool nb, .slice ao n cap] 35)).alloc (.cells #[.bool mb, .slice bo m cb] 35)).alloc (.cells #[.bool false, .slice none 0 0] 35) ∧ Below w.heap.size w W ∧
      Box W w.heap.size nb ao n cap ∧ Box W (w.heap.size + 1) mb bo m cb ∧ Box W (w.heap.size + 1 + 1) false none 0 0 ∧ w.heap.size + 3 ≤ W.heap.size := by
  refine ⟨_, rfl, (((Below.refl _ w).alloc (Nat.le_refl _) _).alloc (by simp) _).alloc (by simp; omega) _, ?_, ?_, ?_, by simp⟩
  · exact (Box.new w nb ao n cap).below (((Below.refl _ _).alloc (Nat.le_refl _) _).alloc (by simp) _)
  · have := (Box.new (w.alloc (.cells #[.bool nb, .slice ao n cap] 35)) mb bo m cb).below ((Below.refl _ _).alloc (Nat.le_refl _) (.cells #[.bool false, .slice none 0 0] 35))
    simpa using this
  · have := Box.new ((w.alloc (.cells #[.bool nb, .slice ao n cap] 35)).alloc (.cells #[.bool mb, .slice bo m cb] 35)) false none 0 0
    simpa using this

end Go.Proofs.YtolghagbpnjpgaaDoor

namespace Go.Proofs.YtolghagbpnjpgaaDoor
open Go.ChangeShapes Go.WideShapes Go.ChangeAt Go.RowKit Go.Joins

theorem Tryd.own : ownKnob Tryd.prog.godebug = none := by kernel_rfl
theorem Tryd.laidOut : laidOutB Tryd.prog = true := by kernel_rfl
end Go.Proofs.YtolghagbpnjpgaaDoor

namespace Go.Proofs.YtolghagbpnjpgaaDoor
open Go.RowKit

/-- the table that bits.TrailingZeros32 reads -/
def Table (w : World) : Prop := TabAt 2 Lib.deBruijn32tab w

theorem Table.below {w w' : World} (h : Table w) (hb : Below w.heap.size w w') : Table w' := by
  intro j hj
  have h1 := h j hj
  rw [hb.cell (p := ⟨_, j, none⟩) (lt_of_cell h1)]
  exact h1

set_option maxRecDepth 100000 in
set_option maxHeartbeats 1000000 in
theorem tz32_at (x k idx : Nat) (w : World) (hx0 : ((x : Int) == 0) = false)
    (key : bits BinOp.and IntKind.u32 (x : Int) (-(x : Int) % 4294967296) * 125613361 % 4294967296 / 134217728 = (idx : Int))
    (hi : idx < 32) (hk : k < 32) (hcell : w.cell? ⟨2, idx, none⟩ = some (.int .u8 k)) :
    Calls Tryd.prog 110 #[.int .u32 x] w fun e w' => e = .returned (.int .i64 k) ∧ w = w' := by
  go_enter Tryd.func110, Tryd.ntmps110
  go_wp2_with (simp only [key])
  go_ret
  exact ⟨rfl, rfl⟩

theorem ctz_lt {x : Nat} (h : x ≠ 0) (h1 : x < 4294967296) : Lib.ctz 32 x < 32 := (Lib.lowest_bit 32 x h h1).2

theorem tz32_any (x : Nat) (h0 : x ≠ 0) (h1 : x < 4294967296) (w : World) (hT : Table w) :
    Calls Tryd.prog 110 #[.int .u32 x] w fun e w' => e = .returned (.int .i64 (Lib.ctz 32 x)) ∧ w = w' := by
  obtain ⟨hlow, hk⟩ := Lib.lowest_bit 32 x h0 h1
  obtain ⟨hi, htab⟩ := Lib.deBruijn32_at _ hk
  have hcell := hT _ hi
  rw [htab] at hcell
  exact tz32_at x _ _ w (by simp; omega) (tz32_key x _ h1 h0 hlow) hi hk hcell

/-- the number of trailing zeros -/
def IsTz (a t : Nat) : Prop := (a = 0 ∧ t = 0) ∨ (a ≠ 0 ∧ ∃ m, a = 2 ^ t * (2 * m + 1))

theorem odd_unique {s t m n : Nat} (h : 2 ^ s * (2 * m + 1) = 2 ^ t * (2 * n + 1)) : s = t := by
  induction s generalizing t with
  | zero =>
    rcases t with _ | t
    · rfl
    · exfalso
      rw [Nat.pow_zero, Nat.one_mul, Nat.pow_succ, Nat.mul_assoc, Nat.mul_left_comm] at h
      omega
  | succ s ih =>
    rcases t with _ | t
    · exfalso
      rw [Nat.pow_zero, Nat.one_mul, Nat.pow_succ, Nat.mul_assoc, Nat.mul_left_comm] at h
      omega
    · rw [Nat.pow_succ, Nat.mul_assoc, Nat.mul_left_comm, Nat.pow_succ, Nat.mul_assoc (2 ^ t), Nat.mul_left_comm (2 ^ t)] at h
      have := ih (t := t) (by omega)
      omega

theorem IsTz.unique {a s t : Nat} (h : IsTz a s) (k : IsTz a t) : s = t := by
  rcases h with ⟨h0, rfl⟩ | ⟨h0, m, hm⟩
  · rcases k with ⟨_, rfl⟩ | ⟨k0, _⟩
    · rfl
    · exact absurd h0 k0
  · rcases k with ⟨k0, _⟩ | ⟨_, n, hn⟩
    · exact absurd k0 h0
    · exact odd_unique (hm.symm.trans hn)

theorem IsTz.mul {a t : Nat} (h : IsTz a t) (h0 : a ≠ 0) (k : Nat) : IsTz (a * 2 ^ k) (t + k) := by
  rcases h with ⟨e, _⟩ | ⟨_, m, hm⟩
  · exact absurd e h0
  · refine Or.inr ⟨Nat.mul_ne_zero h0 (by simp), m, ?_⟩
    rw [hm, Nat.pow_add, Nat.mul_right_comm]

/-- the first limb that is not zero tells -/
theorem tz_limbs {a j x : Nat} (hz : ∀ i, i < j → (limbs a).getD i 0 = 0) (hx : (limbs a).getD j 0 = (x : Int)) (hx0 : x ≠ 0) (hx1 : x < 4294967296) (hj : j < (limbs a).length) : IsTz a (j * 32 + Lib.ctz 32 x) := by
  have hpj : (0 : Nat) < 4294967296 ^ j := Nat.pos_of_ne_zero (by simp)
  have hlow : num ((limbs a).take j) = 0 := by
    have : ∀ k, k ≤ j → num ((limbs a).take k) = 0 := by
      intro k
      induction k with
      | zero => intro _; simp [num]
      | succ k ih => intro hk; rw [num_take_succ _ _ (by omega), ih (by omega), hz k (by omega)]; simp
    exact this j (Nat.le_refl _)
  have e := num_append ((limbs a).take j) ((limbs a).drop j)
  rw [List.take_append_drop, List.length_take, Nat.min_eq_left (by omega), hlow, num_limbs, List.drop_eq_getElem_cons hj, num, ← getD_at hj, hx] at e
  have hwd := num_nonneg ((Wf.limbs a).drop (j + 1))
  obtain ⟨q, hq⟩ := Int.eq_ofNat_of_zero_le hwd
  rw [hq] at e
  have e2 : a = 4294967296 ^ j * (x + 4294967296 * q) := by
    apply Int.ofNat.inj
    show (a : Int) = _
    rw [e, Int.zero_add]
    push_cast
    rfl
  have hc : Lib.ctz 32 x = Lib.ctzFrom 32 x := by unfold Lib.ctz; rw [if_neg hx0]
  obtain ⟨m, hm, hlt⟩ := Lib.ctzFrom_spec 32 x (by omega) (by omega)
  rw [hc]
  generalize Lib.ctzFrom 32 x = t at *
  have hp32 : (4294967296 : Nat) = 2 ^ t * (2 * 2 ^ (31 - t)) := by
    rw [← Nat.pow_succ', ← Nat.pow_add, show t + (31 - t + 1) = 32 by omega]
  refine Or.inr ⟨?_, m + 2 ^ (31 - t) * q, ?_⟩
  · rw [e2]; exact Nat.mul_ne_zero (by omega) (by omega)
  · have e3 : x + 4294967296 * q = 2 ^ t * (2 * (m + 2 ^ (31 - t) * q) + 1) := by
      conv => lhs; rw [hm, hp32]
      rw [Nat.mul_assoc (2 ^ t), ← Nat.mul_add, Nat.mul_assoc 2]
      congr 1
      omega
    rw [e2, e3, Nat.mul_comm j 32, Nat.pow_add, Nat.pow_mul, Nat.mul_assoc]

end Go.Proofs.YtolghagbpnjpgaaDoor

namespace Go.Proofs.YtolghagbpnjpgaaDoor
open Go.ChangeShapes Go.WideShapes Go.ChangeAt Go.RowKit Go.Joins Go.Deep

theorem table_of {rest : List (String × DataW Unit)} {W : World} (h : laidMet Tryd.prog (("math/bits.deBruijn32tab", Rows.laid_math_bits_deBruijn32tab) :: rest) W) : Table W := by
  have h1 : Lib.TabIs Tryd.prog W "math/bits.deBruijn32tab" .u8 (Lib.deBruijn32tab.map fun (n : Nat) => (n : Int)) :=
    Lib.tabIs_of_head (g := 2) (t := 111) (e := 5) (n := 32) (rest := rest) (by kernel_rfl) (by kernel_rfl) (by kernel_rfl) (by kernel_rfl) (by kernel_rfl) (by kernel_rfl) h
  intro j hj
  have h2 := h1.cell (g := 2) (by kernel_rfl) j (by simpa using hj)
  rw [h2]
  simp [List.getD, hj]
end Go.Proofs.YtolghagbpnjpgaaDoor

namespace Go.Proofs.YtolghagbpnjpgaaDoor
open Go.ChangeShapes Go.WideShapes Go.ChangeAt Go.RowKit Go.Joins Go.Deep

theorem Tryd.cellsInterval : Tryd.prog.cellsOf 25 = 2 := by kernel_rfl
theorem Tryd.cellsFloat : Tryd.prog.cellsOf 23 = 1 := by kernel_rfl
theorem Tryd.readInterval : Tryd.prog.readableRec 25 = true := by kernel_rfl
theorem Tryd.sizeInterval : 25 < Tryd.prog.types.size := of_decide_eq_true (by kernel_rfl)

set_option maxRecDepth 100000 in
/-- an interval that came in -/
theorem raw_interval {H : Type} {enc : TypeId × Value → H} {W : World} {base : Nat} {v : Value} {d : DataW H} {p : List MemPlace} (hv : Value.okWide Tryd.prog W .any base 25 v)
    (h : DataW.Trod enc Tryd.prog W 0 (fun _ => true) true 25 v d p) : ∃ lo hi : Int, v = .agg #[.int .u64 lo, .int .u64 hi] ∧ (0 ≤ lo ∧ lo < 18446744073709551616) ∧ (0 ≤ hi ∧ hi < 18446744073709551616) := by
  obtain ⟨cs, rfl, hsz⟩ := okWide_struct Tryd.underlying25 hv
  obtain ⟨c0, c1, rfl⟩ := array2 (hsz.trans Tryd.cellsInterval)
  obtain ⟨fuel, hf⟩ := h
  obtain ⟨z0, z1, m', _, _, hz0, hz1⟩ := trod_struct2 Tryd.underlying25 hf
  simp only [Value.cells, Tryd.cellsFloat, List.drop_zero, List.take_succ_cons, List.take_zero, List.drop_succ_cons] at hz0 hz1
  obtain ⟨lo, e0, _, w0⟩ := DataW.trod_int Tryd.underlying23 hz0
  simp at e0
  subst e0
  obtain ⟨hi, e1, _, w1⟩ := DataW.trod_int Tryd.underlying23 hz1
  simp at e1
  subst e1
  have b0 := bounds_u64 w0
  have b1 := bounds_u64 w1
  exact ⟨lo, hi, rfl, by omega, by omega⟩
end Go.Proofs.YtolghagbpnjpgaaDoor
