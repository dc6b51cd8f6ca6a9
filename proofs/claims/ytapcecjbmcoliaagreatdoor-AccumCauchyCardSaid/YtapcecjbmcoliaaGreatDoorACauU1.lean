import Derived.Test.YtapcecjbmcoliaaGreatDoorACauU0
import Derived.WalkKit
import Derived.WalkSmall
import Derived.Laws.CopyOwn
import Derived.Lib.Hide
import Derived.Deep.QuietTactic
import Derived.BigQuiet
namespace Go.Proofs.YtapcecjbmcoliaaGreatDoor
open Go Go.RowKit

/-- at address ao lie the limbs zs -/
def At (w : World) (ao : Option Addr) (zs : List Int) : Prop :=
  0 < zs.length → ∃ b off, ao = some ⟨b, off, none⟩ ∧ ∀ j, j < zs.length → w.cell? ⟨b, off + j, none⟩ = some (.int .u32 (zs.getD j 0))

/-- the slice with address ao, length n and capacity cap reads as the limbs zs -/
structure Sl (w : World) (ao : Option Addr) (n cap : Nat) (zs : List Int) : Prop where
  len : zs.length = n
  cap : n ≤ cap
  big : n ≤ 1099511627776
  wf : Wf zs
  cells : At w ao zs

/-- block g holds the limbs L, and can be written -/
def Blk (w : World) (g : Nat) (L : List Int) : Prop := w.heap[g]? = some (.cells (L.map (Value.int .u32)).toArray 47 (0, 0))

/-- only block g may have changed -/
structure Only (g : Nat) (w w' : World) : Prop where
  os : w'.os = w.os
  tape : w'.tape = w.tape
  output : w'.output = w.output
  size : w'.heap.size = w.heap.size
  block : ∀ k, k ≠ g → w'.heap[k]? = w.heap[k]?

theorem Only.refl (g : Nat) (w : World) : Only g w w := ⟨rfl, rfl, rfl, rfl, fun _ _ => rfl⟩
theorem Only.trans {g : Nat} {a b c : World} (h : Only g a b) (k : Only g b c) : Only g a c :=
  ⟨k.os.trans h.os, k.tape.trans h.tape, k.output.trans h.output, k.size.trans h.size, fun i hi => (k.block i hi).trans (h.block i hi)⟩
theorem Only.below {g B : Nat} {w w' : World} (h : Only g w w') (hB : B ≤ g) : Below B w w' :=
  ⟨h.os, h.tape, h.output, by rw [h.size]; exact Nat.le_refl _, fun k hk => h.block k (by omega)⟩
theorem Only.setCell {g : Nat} {a w : World} (h : Only g a w) (o : Nat) (u : Value) : Only g a (w.setCell ⟨g, o, none⟩ u) :=
  h.trans ⟨rfl, rfl, rfl, by simp [World.setCell], fun k hk => Below.heap_setCell _ _ _ _ (by simpa using hk)⟩
theorem Only.drew {g : Nat} {a w : World} (h : Only g a w) : Only g a w.drew := ⟨h.os, h.tape, h.output, h.size, h.block⟩
theorem Only.drewN {g : Nat} {a w : World} (h : Only g a w) (n : Nat) : Only g a (w.drewN n) := ⟨h.os, h.tape, h.output, h.size, h.block⟩

theorem lt_of_cell {w : World} {b o : Nat} {v : Value} (h : w.cell? ⟨b, o, none⟩ = some v) : b < w.heap.size := World.block_lt_of_cell? w _ h

theorem At.below {w w' : World} {ao : Option Addr} {zs : List Int} (h : At w ao zs) (hb : Below w.heap.size w w') : At w' ao zs := by
  intro h0
  obtain ⟨b, off, e, hc⟩ := h h0
  refine ⟨b, off, e, fun j hj => ?_⟩
  have := hc j hj
  rw [hb.cell (p := ⟨b, off + j, none⟩) (lt_of_cell this)]
  exact this

theorem Sl.below {w w' : World} {ao : Option Addr} {n cap : Nat} {zs : List Int} (h : Sl w ao n cap zs) (hb : Below w.heap.size w w') : Sl w' ao n cap zs :=
  ⟨h.len, h.cap, h.big, h.wf, h.cells.below hb⟩
theorem Sl.nil (w : World) : Sl w none 0 0 [] := ⟨rfl, Nat.le_refl _, by simp, Wf.nil, fun h => absurd h (by simp)⟩
theorem take_getD (zs : List Int) (k j : Nat) (h : j < k) : (zs.take k).getD j 0 = zs.getD j 0 := by
  simp [List.getD, h]

theorem At.take {w : World} {ao : Option Addr} {zs : List Int} (h : At w ao zs) (k : Nat) : At w ao (zs.take k) := by
  intro h0
  rw [List.length_take] at h0
  obtain ⟨b, off, e, hc⟩ := h (by omega)
  refine ⟨b, off, e, fun j hj => ?_⟩
  rw [List.length_take] at hj
  rw [take_getD zs k j (by omega)]
  exact hc j (by omega)

theorem Blk.lt {w : World} {g : Nat} {L : List Int} (h : Blk w g L) : g < w.heap.size := (Array.getElem?_eq_some_iff.1 h).1

theorem Blk.cell {w : World} {g : Nat} {L : List Int} (h : Blk w g L) (j : Nat) (hj : j < L.length) : w.cell? ⟨g, j, none⟩ = some (.int .u32 (L.getD j 0)) := by
  rw [cell_of_row w g j _ _ _ h]
  simp [List.getD, hj]

theorem Blk.frozen {w : World} {g : Nat} {L : List Int} (h : Blk w g L) (j : Nat) : w.frozen? ⟨g, j, none⟩ = false := by
  unfold Blk at h
  simp [World.frozen?, h]

theorem Blk.kept {w w' : World} {g : Nat} {L : List Int} (h : Blk w g L) {B : Nat} (hb : Below B w w') (hg : g < B) : Blk w' g L := by
  unfold Blk; rw [hb.block g hg]; exact h
theorem Blk.below {w w' : World} {g : Nat} {L : List Int} (h : Blk w g L) (hb : Below w.heap.size w w') : Blk w' g L := h.kept hb h.lt
theorem Blk.only {w w' : World} {g k : Nat} {L : List Int} (h : Blk w g L) (hb : Only k w w') (hg : g ≠ k) : Blk w' g L := by
  unfold Blk; rw [hb.block g hg]; exact h
theorem Blk.drew {w : World} {g : Nat} {L : List Int} (h : Blk w g L) : Blk w.drew g L := h
theorem Blk.drewN {w : World} {g : Nat} {L : List Int} (h : Blk w g L) (n : Nat) : Blk (w.drewN n) g L := h

theorem Blk.set {w : World} {g : Nat} {L : List Int} (h : Blk w g L) (i : Nat) (x : Int) : Blk (w.setCell ⟨g, i, none⟩ (.int .u32 x)) g (L.set i x) := by
  unfold Blk at h ⊢
  simp only [World.setCell, Array.getElem?_modify, if_true, h, Option.map_some]
  congr 2
  apply Array.ext'
  simp [List.map_set]

theorem Blk.at {w : World} {g : Nat} {L : List Int} (h : Blk w g L) : At w (some ⟨g, 0, none⟩) L := fun _ => ⟨g, 0, rfl, fun j hj => by rw [Nat.zero_add]; exact h.cell j hj⟩

theorem Blk.sl {w : World} {g n cap : Nat} {L : List Int} (h : Blk w g L) (hw : Wf L) (hn : L.length = n) (hl : n ≤ 1099511627776) (hc : n ≤ cap) : Sl w (some ⟨g, 0, none⟩) n cap L :=
  ⟨hn, hc, hl, hw, h.at⟩

theorem Sl.take {w : World} {ao : Option Addr} {n cap : Nat} {zs : List Int} (h : Sl w ao n cap zs) (k : Nat) (hk : k ≤ n) : Sl w ao k cap (zs.take k) :=
  ⟨by rw [List.length_take, h.len, Nat.min_eq_left hk], by have := h.cap; omega, by have := h.big; omega, h.wf.take k, h.cells.take k⟩

theorem Sl.trim {w : World} {ao : Option Addr} {n cap : Nat} {zs : List Int} (h : Sl w ao n cap zs) : Sl w ao (tlen zs n) cap (limbs (num zs).toNat) := by
  have e := take_tlen h.wf n (by rw [h.len]; exact Nat.le_refl _)
  have e2 : zs.take n = zs := List.take_of_length_le (by rw [h.len]; exact Nat.le_refl _)
  rw [e2] at e
  rw [← e]
  exact h.take _ (tlen_le _ _)

/-- what lies elsewhere stays when block g is written -/
def Stay (g : Nat) (w : World) (ao : Option Addr) (zs : List Int) : Prop := ∀ w', Only g w w' → At w' ao zs

theorem At.stay {w : World} {ao : Option Addr} {zs : List Int} {B g : Nat} (h : At w ao zs) (hB : ∀ b off, ao = some ⟨b, off, none⟩ → 0 < zs.length → b < B) (hg : B ≤ g) : Stay g w ao zs := by
  intro w' ho h0
  obtain ⟨b, off, e, hc⟩ := h h0
  have hb := hB b off e h0
  refine ⟨b, off, e, fun j hj => ?_⟩
  rw [(ho.below hg).cell (p := ⟨b, off + j, none⟩) hb]
  exact hc j hj

/-- what was readable in w stays readable later, and while a newer block is written -/
theorem At.stay_below {w w1 : World} {ao : Option Addr} {zs : List Int} {g : Nat} (h : At w ao zs) (hb : Below w.heap.size w w1) (hg : w.heap.size ≤ g) : Stay g w1 ao zs := by
  refine At.stay (h.below hb) (B := w.heap.size) ?_ hg
  intro b off e h0
  obtain ⟨b', off', e', hc⟩ := h h0
  rw [e] at e'
  cases e'
  exact lt_of_cell (hc 0 h0)

/-- a new array of zeros -/
theorem blk_made {w : World} {n base g cap : Nat} (h : w.ownsRow base 47 1 (.slice (some ⟨g, 0, none⟩) n cap) n (madeCells (Value.int .u32 0).cells (n * 1)).toList) (hcap : cap = n) :
    Blk w g (List.replicate n 0) := by
  obtain ⟨_, h2⟩ := h
  rcases h2 with ⟨h0, _⟩ | ⟨g', cap', cur, hv, _, hh, _, _, hsz, htake⟩
  · cases h0
  · cases hv
    subst hcap
    unfold Blk
    rw [hh]
    rw [List.take_of_length_le (by simp [hsz])] at htake
    have : cur = (List.map (Value.int IntKind.u32) (List.replicate cap 0)).toArray := by
      apply Array.ext'
      rw [htake]
      simp [madeCells, Value.cells, Nat.mod_one, List.map_const']
    rw [this]

theorem Only.setRow {g : Nat} {a w : World} (h : Only g a w) (cs : Array Value) : Only g a (w.setRow g cs) :=
  h.trans ⟨rfl, rfl, rfl, by simp [World.setRow], fun k hk => setRow_other w g k cs (by omega)⟩

/-- copy into a block of the call's own -/
theorem wpList_copy_u32 {P : Program} {w : World} {ops : Array Oper} {rest : List Oper} {o : Oper} {a : Act} {Q : Exit → Act → World → Prop} (hgd : o.guard = none) (d s : Operand)
    (ho : o.op = .call { callee := .builtin .copy, args := #[d, s], argTypes := #[25, 25] }) (hu : P.underlying 25 = some (.slice 47)) (hsz : (P.info? 47).map (·.size) = some 1)
    (g off dLen dCap : Nat) (sp : Option Addr) (sLen sCap : Nat) (hd : a.eval d = .slice (some ⟨g, off, none⟩) dLen dCap) (hs : a.eval s = .slice sp sLen sCap)
    (L : List Int) (hb : Blk w g L) (zs : List Int) (hz : Sl w sp sLen sCap zs) (hle : sLen ≤ dLen) (hfit : off + sLen ≤ L.length)
    (h : ∀ w', Blk w' g (splice L off zs) → Only g w w' → wpList P ops Q rest (a.put o.dst (goInt sLen)) w') : wpList P ops Q (o :: rest) a w := by
  have hn : Nat.min sLen dLen = sLen := Nat.min_eq_left hle
  by_cases h0 : sLen = 0
  · refine wpList_copy_nothing hgd d s _ _ ho _ hu hsz _ _ _ _ _ _ hd hs (by rw [hn]; exact h0) ?_
    have hz0 : zs = [] := List.eq_nil_of_length_eq_zero (by rw [hz.len]; exact h0)
    have := h w (by subst hz0; simpa [splice] using hb) (Only.refl g w)
    rw [h0] at this
    exact this
  · obtain ⟨b, o', rfl, hc⟩ := hz.cells (by rw [hz.len]; omega)
    have hlen := hz.len
    refine wpList_copy_own hgd d s _ _ ho _ hu hsz g off dLen dCap _ sLen sCap hd hs _ _ hb (zs.map (Value.int .u32)) (by simp [hlen, hn]) ?_ (by simp [hlen]; omega) ?_ ?_
    · intro j v hj
      rw [List.getElem?_map] at hj
      by_cases hjl : j < zs.length
      · rw [List.getElem?_eq_getElem hjl] at hj
        simp only [Option.map_some, Option.some.injEq] at hj
        subst hj
        rw [Addr.add_lit, ← getD_at hjl]
        exact hc j hjl
      · rw [List.getElem?_eq_none (by omega)] at hj; cases hj
    · intro v hv
      rw [List.mem_map] at hv
      obtain ⟨x, _, rfl⟩ := hv
      rfl
    · have := h (w.setRow g ((List.map (Value.int .u32) L).toArray.toList.take off ++ ((zs.map (Value.int .u32)) ++ (List.map (Value.int .u32) L).toArray.toList.drop (off + (zs.map (Value.int .u32)).length))).toArray) ?_ ((Only.refl g w).setRow _)
      · simpa [hlen] using this
      · unfold Blk
        rw [setRow_heap w g _ _ _ _ hb]
        simp [splice, List.map_take, List.map_drop]

/-- a quiet call in a region that stands behind another one -/
theorem quiet_add_left {P : Program} {f : FuncId} {args : Array Value} {w : World} {a n : Nat} {v : Value}
    (h : Calls P f args (w.drewN (a + n)) fun e w' => e = .returned v ∧ w.drewN (a + n) = w') :
    Calls P f args (w.drewN (a + n)) fun e w'' => e = .returned v ∧ ∃ m, w'' = w.drewN (a + m) :=
  h.mono fun _ _ ⟨he, hm⟩ => ⟨he, n, hm.symm⟩
theorem quiet_left {P : Program} {f : FuncId} {args : Array Value} {w : World} {n : Nat} {v : Value}
    (h : Calls P f args (w.drewN n) fun e w' => e = .returned v ∧ w.drewN n = w') : Calls P f args (w.drewN n) fun e w'' => e = .returned v ∧ ∃ m, w'' = w.drewN m :=
  h.mono fun _ _ ⟨he, hm⟩ => ⟨he, n, hm.symm⟩

/-- the sign and the limbs zs stand for x -/
def sgd (nb : Bool) (zs : List Int) : Int := if nb then - num zs else num zs

/-- an integer, normalized or not, that stands for x -/
structure Bg (w : World) (nb : Bool) (ao : Option Addr) (n cap : Nat) (x : Int) : Prop where
  ex : ∃ zs, Sl w ao n cap zs ∧ x = sgd nb zs
  small : n ≤ 1000000000

/-- the normalized integer x -/
structure Bn (w : World) (nb : Bool) (ao : Option Addr) (n cap : Nat) (x : Int) : Prop where
  neg : nb = decide (x < 0)
  sl : Sl w ao n cap (limbs x.natAbs)

theorem Bg.below {w w' : World} {nb : Bool} {ao : Option Addr} {n cap : Nat} {x : Int} (h : Bg w nb ao n cap x) (hb : Below w.heap.size w w') : Bg w' nb ao n cap x := by
  obtain ⟨⟨zs, h1, h2⟩, h3⟩ := h
  exact ⟨⟨zs, h1.below hb, h2⟩, h3⟩
theorem Bn.below {w w' : World} {nb : Bool} {ao : Option Addr} {n cap : Nat} {x : Int} (h : Bn w nb ao n cap x) (hb : Below w.heap.size w w') : Bn w' nb ao n cap x :=
  ⟨h.neg, h.sl.below hb⟩

theorem sgd_natAbs {nb : Bool} {zs : List Int} (h : Wf zs) : (sgd nb zs).natAbs = (num zs).toNat := by
  have hn := num_nonneg h
  unfold sgd
  split <;> omega

/-- a sign and the limbs of a number: the number with this sign -/
theorem bn_of {w : World} {nb nr : Bool} {ro : Option Addr} {k cr a : Nat} {x : Int} (hs : Sl w ro k cr (limbs a)) (hnr : nr = (nb && decide (0 < k))) (hx : x = if nb then - (a : Int) else a) : Bn w nr ro k cr x := by
  have e : x.natAbs = a := by rw [hx]; split <;> omega
  refine ⟨?_, by rw [e]; exact hs⟩
  have hl := hs.len
  have h0 : a = 0 ↔ k = 0 := by
    rw [← hl]
    constructor
    · rintro rfl; simp [limbs_zero]
    · intro h; exact limbs_inj (by rw [limbs_zero]; exact List.eq_nil_of_length_eq_zero h)
  rw [hnr, hx]
  cases nb
  · simp <;> omega
  · simp <;> omega

theorem Bn.bg {w : World} {nb : Bool} {ao : Option Addr} {n cap : Nat} {x : Int} (h : Bn w nb ao n cap x) (hs : n ≤ 1000000000) : Bg w nb ao n cap x := by
  refine ⟨⟨_, h.sl, ?_⟩, hs⟩
  unfold sgd
  rw [num_limbs, h.neg]
  by_cases hx : x < 0
  · simp [hx] <;> omega
  · simp [hx] <;> omega

/-- block g holds the integer with this sign and these limbs, in a block of the call's own -/
def Box (W : World) (g : Nat) (nb : Bool) (ao : Option Addr) (n cap : Nat) : Prop := W.heap[g]? = some (.cells #[.bool nb, .slice ao n cap] 27 (0, 0))

theorem Box.c0 {W : World} {g : Nat} {nb : Bool} {ao : Option Addr} {n cap : Nat} (h : Box W g nb ao n cap) : W.cell? ⟨g, 0, none⟩ = some (.bool nb) := by
  rw [cell_of_row W g 0 _ _ _ h]; rfl
theorem Box.c1 {W : World} {g : Nat} {nb : Bool} {ao : Option Addr} {n cap : Nat} (h : Box W g nb ao n cap) : W.cell? ⟨g, 1, none⟩ = some (.slice ao n cap) := by
  rw [cell_of_row W g 1 _ _ _ h]; rfl
theorem Box.f {W : World} {g : Nat} {nb : Bool} {ao : Option Addr} {n cap : Nat} (h : Box W g nb ao n cap) (o : Nat) : W.frozen? ⟨g, o, none⟩ = false := by
  unfold Box at h; simp [World.frozen?, h]
theorem Box.new (w : World) (nb : Bool) (ao : Option Addr) (n cap : Nat) : Box (w.alloc (.cells #[.bool nb, .slice ao n cap] 27)) w.heap.size nb ao n cap := heap_alloc_new w _
theorem Box.kept {w w' : World} {B g : Nat} {nb : Bool} {ao : Option Addr} {n cap : Nat} (h : Box w g nb ao n cap) (hb : Below B w w') (hg : g < B) : Box w' g nb ao n cap := by
  unfold Box; rw [hb.block g hg]; exact h
theorem Box.lt {w : World} {g : Nat} {nb : Bool} {ao : Option Addr} {n cap : Nat} (h : Box w g nb ao n cap) : g < w.heap.size := lt_of_cell h.c0
theorem Box.below {w w' : World} {g : Nat} {nb : Bool} {ao : Option Addr} {n cap : Nat} (h : Box w g nb ao n cap) (hb : Below w.heap.size w w') : Box w' g nb ao n cap := h.kept hb h.lt
theorem Box.drew {w : World} {g : Nat} {nb : Bool} {ao : Option Addr} {n cap : Nat} (h : Box w g nb ao n cap) : Box w.drew g nb ao n cap := h
theorem Box.drewN {w : World} {g : Nat} {nb : Bool} {ao : Option Addr} {n cap : Nat} (h : Box w g nb ao n cap) (q : Nat) : Box (w.drewN q) g nb ao n cap := h
theorem Sl.drew {w : World} {ao : Option Addr} {n cap : Nat} {zs : List Int} (h : Sl w ao n cap zs) : Sl w.drew ao n cap zs := h.below (Below.refl _ _).drew
theorem Sl.drewN {w : World} {ao : Option Addr} {n cap : Nat} {zs : List Int} (h : Sl w ao n cap zs) (q : Nat) : Sl (w.drewN q) ao n cap zs := h.below (below_drewN (Below.refl _ _) q)

/-- limbs do not lie in a box -/
theorem At.only_box {w w' : World} {g : Nat} {nb : Bool} {ao ro : Option Addr} {n cap : Nat} {zs : List Int} (hx : Box w g nb ao n cap) (h : At w ro zs) (ho : Only g w w') : At w' ro zs := by
  intro h0
  obtain ⟨b, off, e, hc⟩ := h h0
  refine ⟨b, off, e, fun j hj => ?_⟩
  have hne : b ≠ g := by
    rintro rfl
    have := hc j hj
    rw [cell_of_row w b (off + j) _ _ _ hx] at this
    match off + j, this with
    | 0, this => simp at this
    | 1, this => simp at this
    | k + 2, this => simp at this
  rw [World.cell?_of_block (w := w) (ho.block b hne)]
  exact hc j hj
theorem Sl.only_box {w w' : World} {g : Nat} {nb : Bool} {ao ro : Option Addr} {n cap k cr : Nat} {zs : List Int} (h : Sl w ro k cr zs) (hx : Box w g nb ao n cap) (ho : Only g w w') : Sl w' ro k cr zs :=
  ⟨h.len, h.cap, h.big, h.wf, h.cells.only_box hx ho⟩
theorem only_set2 (w : World) (g : Nat) (u v : Value) : Only g w ((w.setCell ⟨g, 0, none⟩ u).setCell ⟨g, 1, none⟩ v) := ((Only.refl g w).setCell _ _).setCell _ _
theorem only_set1 (w : World) (g o : Nat) (u : Value) : Only g w (w.setCell ⟨g, o, none⟩ u) := (Only.refl g w).setCell _ _
theorem Box.only {w w' : World} {g k : Nat} {nb : Bool} {ao : Option Addr} {n cap : Nat} (h : Box w g nb ao n cap) (ho : Only k w w') (hne : g ≠ k) : Box w' g nb ao n cap := by
  unfold Box; rw [ho.block g hne]; exact h

theorem Box.stored {w : World} {g : Nat} {nb : Bool} {ao : Option Addr} {n cap : Nat} (h : Box w g nb ao n cap) (mb : Bool) (bo : Option Addr) (m cb : Nat) :
    Box ((w.setCell ⟨g, 0, none⟩ (.bool mb)).setCell ⟨g, 1, none⟩ (.slice bo m cb)) g mb bo m cb := by
  unfold Box at h ⊢
  simp [World.setCell, Array.getElem?_modify, h]
theorem Box.stored0 {w : World} {g : Nat} {nb : Bool} {ao : Option Addr} {n cap : Nat} (h : Box w g nb ao n cap) (mb : Bool) :
    Box (w.setCell ⟨g, 0, none⟩ (.bool mb)) g mb ao n cap := by
  unfold Box at h ⊢
  simp [World.setCell, Array.getElem?_modify, h]
theorem bnext {B : Nat} {w W W2 : World} (h : Below B w W) (hB : B ≤ W.heap.size) (h2 : Below W.heap.size W W2) : Below B w W2 ∧ B ≤ W2.heap.size := ⟨h.trans (h2.mono hB), by have := h2.size; omega⟩

/-- a world behind draws, under a name of its own -/
theorem drewN_world (W : World) (q : Nat) : ∃ W2, W.drewN q = W2 ∧ Below W.heap.size W W2 := ⟨_, rfl, below_drewN (Below.refl _ _) q⟩

/-- one argument boxed, and the place of the result -/
theorem boxes1 (w : World) (nb : Bool) (ao : Option Addr) (n cap : Nat) :
    ∃ W, W = (w.alloc (.cells #[.bool nb, .slice ao n cap] 27)).alloc (.cells #[.bool false, .slice none 0 0] 27) ∧ Below w.heap.size w W ∧ Box W w.heap.size nb ao n cap ∧ Box W (w.heap.size + 1) false none 0 0 ∧ w.heap.size + 2 ≤ W.heap.size := by
  refine ⟨_, rfl, ((Below.refl _ w).alloc (Nat.le_refl _) _).alloc (by simp) _, ?_, ?_, by simp⟩
  · exact (Box.new w nb ao n cap).below ((Below.refl _ _).alloc (Nat.le_refl _) _)
  · have := Box.new (w.alloc (.cells #[.bool nb, .slice ao n cap] 27)) false none 0 0
    simpa using this

/-- two arguments boxed, and the place of the result -/
theorem boxes2 (w : World) (nb : Bool) (ao : Option Addr) (n cap : Nat) (mb : Bool) (bo : Option Addr) (m cb : Nat) :
    ∃ W, W = ((w.alloc (.cells #[.bool nb, .slice ao n cap] 27)).alloc (.cells #[.bool mb, .slice bo m cb] 27)).alloc (.cells #[.bool false, .slice none 0 0] 27) ∧ Below w.heap.size w W ∧
      Box W w.heap.size nb ao n cap ∧ Box W (w.heap.size + 1) mb bo m cb ∧ Box W (w.heap.size + 1 + 1) false none 0 0 ∧ w.heap.size + 3 ≤ W.heap.size := by
  refine ⟨_, rfl, (((Below.refl _ w).alloc (Nat.le_refl _) _).alloc (by simp) _).alloc (by simp; omega) _, ?_, ?_, ?_, by simp⟩
  · exact (Box.new w nb ao n cap).below (((Below.refl _ _).alloc (Nat.le_refl _) _).alloc (by simp) _)
  · have := (Box.new (w.alloc (.cells #[.bool nb, .slice ao n cap] 27)) mb bo m cb).below ((Below.refl _ _).alloc (Nat.le_refl _) (.cells #[.bool false, .slice none 0 0] 27))
    simpa using this
  · have := Box.new ((w.alloc (.cells #[.bool nb, .slice ao n cap] 27)).alloc (.cells #[.bool mb, .slice bo m cb] 27)) false none 0 0
    simpa using this

end Go.Proofs.YtapcecjbmcoliaaGreatDoor
