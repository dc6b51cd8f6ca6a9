/- Plain facts on dyadic numbers: an integer times a power of two, in normalized form. No program stands here. -/
import Derived.Test.YtjohpdobnedilaaGreatDoorGh
import Derived.Test.YtjohpdobnedilaaGreatDoorGf
import Derived.Test.YtjohpdobnedilaaGreatDoorGg
import Derived.Deep.RegionHeld3
import Derived.Deep.CutRange
namespace Go.Proofs.YtjohpdobnedilaaGreatDoor

/-- how often 2 divides a, 0 for zero -/
def tzf (a : Nat) : Nat := if h : a = 0 ∨ a % 2 = 1 then 0 else tzf (a / 2) + 1
termination_by a
decreasing_by omega

theorem tzf_isTz (a : Nat) : IsTz a (tzf a) := by
  induction a using Nat.strongRecOn with
  | _ a ih =>
    rw [tzf]
    by_cases h0 : a = 0
    · rw [dif_pos (Or.inl h0)]; exact Or.inl ⟨h0, rfl⟩
    · by_cases h1 : a % 2 = 1
      · rw [dif_pos (Or.inr h1)]; exact Or.inr ⟨h0, a / 2, by rw [Nat.pow_zero]; omega⟩
      · rw [dif_neg (by omega)]
        rcases ih (a / 2) (by omega) with ⟨h2, _⟩ | ⟨_, m, hm⟩
        · omega
        · refine Or.inr ⟨h0, m, ?_⟩
          rw [Nat.pow_succ, Nat.mul_assoc, Nat.mul_left_comm, ← hm]; omega

theorem tzf_of {a t : Nat} (h : IsTz a t) : t = tzf a := h.unique (tzf_isTz a)
theorem tzf_zero : tzf 0 = 0 := by rw [tzf]; simp
theorem tzf_odd {a : Nat} (h : a % 2 = 1) : tzf a = 0 := by rw [tzf]; simp [h]
theorem tzf_mul {a : Nat} (h : a ≠ 0) (k : Nat) : tzf (a * 2 ^ k) = tzf a + k := ((tzf_of ((tzf_isTz a).mul h k))).symm

theorem two_pos (k : Nat) : (0 : Int) < 2 ^ k := Int.pow_pos (by omega)
theorem natAbs_shift (x : Int) (k : Nat) : (x * 2 ^ k).natAbs = x.natAbs * 2 ^ k := by rw [Int.natAbs_mul, Int.natAbs_pow]; rfl
theorem mul_two_ne {x : Int} (h : x ≠ 0) (k : Nat) : x * 2 ^ k ≠ 0 := Int.mul_ne_zero h (Int.ne_of_gt (two_pos k))

/-- the odd part -/
theorem odd_part {x : Int} (h : x ≠ 0) : ∃ m, x = m * 2 ^ tzf x.natAbs ∧ m.natAbs % 2 = 1 ∧ x / 2 ^ tzf x.natAbs = m := by
  rcases tzf_isTz x.natAbs with ⟨h0, _⟩ | ⟨_, q, hq⟩
  · omega
  · generalize tzf x.natAbs = t at *
    have hp := two_pos t
    rcases Int.lt_or_gt_of_ne h with hx | hx
    · have e : x = (-(2 * (q : Int) + 1)) * 2 ^ t := by
        have : x = -(x.natAbs : Int) := by omega
        rw [this, hq]; push_cast; rw [Int.neg_mul, Int.mul_comm]
      exact ⟨_, e, by omega, by rw [e, Int.mul_ediv_cancel _ (Int.ne_of_gt hp)]⟩
    · have e : x = (2 * (q : Int) + 1) * 2 ^ t := by
        have : x = (x.natAbs : Int) := by omega
        rw [this, hq]; push_cast; rw [Int.mul_comm]
      exact ⟨_, e, by omega, by rw [e, Int.mul_ediv_cancel _ (Int.ne_of_gt hp)]⟩

/-- a dyad: none if it is not representable, otherwise the odd integer and the exponent (or two zeros) -/
abbrev Dy := Option (Int × Int)

/-- x times 2 to the power e, normalized -/
def dmk (x e : Int) : Dy :=
  if x = 0 then some (0, 0) else
  if e < -65536 - (tzf x.natAbs : Int) ∨ 65536 - (blen x.natAbs : Int) < e then none else some (x / 2 ^ tzf x.natAbs, e + tzf x.natAbs)

theorem dmk_zero (e : Int) : dmk 0 e = some (0, 0) := by simp [dmk]
theorem dmk_shift (x e : Int) (k : Nat) : dmk (x * 2 ^ k) e = dmk x (e + k) := by
  by_cases h : x = 0
  · subst h; simp [dmk]
  · have hn : x.natAbs ≠ 0 := by omega
    unfold dmk
    rw [if_neg h, if_neg (mul_two_ne h k), natAbs_shift, tzf_mul hn, blen_mul hn]
    have e1 : x * 2 ^ k / 2 ^ (tzf x.natAbs + k) = x / 2 ^ tzf x.natAbs := by
      rw [Int.pow_add, Int.mul_ediv_mul_of_pos_left _ _ (two_pos k)]
    rw [e1]
    by_cases hc : e < -65536 - ((tzf x.natAbs + k : Nat) : Int) ∨ 65536 - ((blen x.natAbs + k : Nat) : Int) < e
    · rw [if_pos hc, if_pos (by omega)]
    · rw [if_neg hc, if_neg (by omega)]
      congr 2; omega

/-- in normalized form -/
def Nd : Dy → Prop
  | none => True
  | some (m, e) => (m = 0 ∧ e = 0) ∨ (m.natAbs % 2 = 1 ∧ -65536 ≤ e ∧ e + blen m.natAbs ≤ 65536)

theorem dmk_nd (x e : Int) : Nd (dmk x e) := by
  unfold dmk
  by_cases h : x = 0
  · rw [if_pos h]; exact Or.inl ⟨rfl, rfl⟩
  · rw [if_neg h]
    split
    · trivial
    · rename_i hc
      obtain ⟨m, h1, h2, h3⟩ := odd_part h
      refine Or.inr ?_
      rw [h3]
      have hb : blen x.natAbs = blen m.natAbs + tzf x.natAbs := by
        conv => lhs; rw [h1]
        rw [natAbs_shift, blen_mul (by omega)]
      refine ⟨h2, by omega, by omega⟩

theorem dmk_norm {m e : Int} (h : Nd (some (m, e))) : dmk m e = some (m, e) := by
  rcases h with ⟨rfl, rfl⟩ | ⟨h1, h2, h3⟩
  · exact dmk_zero 0
  · unfold dmk
    rw [if_neg (by omega), tzf_odd h1, if_neg (by omega)]
    simp

/-- the same number, the same dyad -/
theorem dmk_eq {x y : Int} {e f : Int} (j k : Nat) (h : x * 2 ^ j = y * 2 ^ k) (he : e - j = f - k) : dmk x e = dmk y f := by
  have a := dmk_shift x (e - j) j
  have b := dmk_shift y (f - k) k
  rw [show e - (j : Int) + j = e by omega] at a
  rw [show f - (k : Int) + k = f by omega] at b
  rw [← a, ← b, h, he]

/-- the integer in units of 2^-65536; not for none -/
def sc : Dy → Int
  | none => 0
  | some (m, e) => m * 2 ^ (e + 65536).toNat

theorem dmk_sc {m e : Int} (h : Nd (some (m, e))) : dmk (sc (some (m, e))) (-65536) = some (m, e) := by
  have hr : -65536 ≤ e := by rcases h with ⟨_, rfl⟩ | ⟨_, h2, _⟩ <;> omega
  have := dmk_shift m (-65536) (e + 65536).toNat
  unfold sc
  simp only
  rw [this, show (-65536 : Int) + (e + 65536).toNat = e by omega]
  exact dmk_norm h

theorem sc_inj {d d' : Dy} (h : Nd d) (h' : Nd d') (hn : d ≠ none) (hn' : d' ≠ none) (e : sc d = sc d') : d = d' := by
  cases d with
  | none => exact absurd rfl hn
  | some p => cases d' with
    | none => exact absurd rfl hn'
    | some q => rw [← dmk_sc h, ← dmk_sc h', e]

/-- the sum, the product, the opposite -/
def dadd : Dy → Dy → Dy
  | some p, some q => dmk (sc (some p) + sc (some q)) (-65536)
  | _, _ => none
def dmul : Dy → Dy → Dy
  | some p, some q => dmk (p.1 * q.1) (p.2 + q.2)
  | _, _ => none
def dneg : Dy → Dy
  | some p => some (-p.1, p.2)
  | none => none
def dabs : Dy → Dy
  | some p => some (p.1.natAbs, p.2)
  | none => none
theorem dneg_nd {d : Dy} (h : Nd d) : Nd (dneg d) := by
  cases d with
  | none => trivial
  | some p =>
    rcases h with ⟨h1, h2⟩ | ⟨h1, h2, h3⟩
    · exact Or.inl ⟨by simp [h1], h2⟩
    · exact Or.inr ⟨by simpa using h1, h2, by simpa using h3⟩
theorem dabs_nd {d : Dy} (h : Nd d) : Nd (dabs d) := by
  cases d with
  | none => trivial
  | some p =>
    rcases h with ⟨h1, h2⟩ | ⟨h1, h2, h3⟩
    · exact Or.inl ⟨by simp [h1], h2⟩
    · exact Or.inr ⟨by simpa using h1, h2, by simpa using h3⟩

/-- d is valid, and N in units of 2^-S -/
def Is (d : Dy) (S : Nat) (N : Int) : Prop := ∃ m e, d = some (m, e) ∧ Nd d ∧ 0 ≤ e + S ∧ N = m * 2 ^ (e + S).toNat

theorem Is.nd {d : Dy} {S : Nat} {N : Int} (h : Is d S N) : Nd d := by obtain ⟨_, _, _, h, _⟩ := h; exact h
theorem Is.mk {d : Dy} {S : Nat} {N : Int} (h : Is d S N) : d = dmk N (-S) := by
  obtain ⟨m, e, rfl, h1, h2, rfl⟩ := h
  rw [dmk_shift, show (-(S : Int)) + (e + S).toNat = e by omega, dmk_norm h1]
theorem Is.unique {d d' : Dy} {S : Nat} {N : Int} (h : Is d S N) (h' : Is d' S N) : d = d' := by rw [h.mk, h'.mk]
theorem Is.up {d : Dy} {S : Nat} {N : Int} (h : Is d S N) (k : Nat) : Is d (S + k) (N * 2 ^ k) := by
  obtain ⟨m, e, h0, h1, h2, rfl⟩ := h
  refine ⟨m, e, h0, h1, by omega, ?_⟩
  rw [show (e + ((S + k : Nat) : Int)).toNat = (e + S).toNat + k by omega, Int.pow_add, Int.mul_assoc]

theorem blen_le_of_lt {a k : Nat} (h : a < 2 ^ k) : blen a ≤ k := by
  by_cases h0 : a = 0
  · subst h0; simp [blen]
  · obtain ⟨l, h1, h2, _⟩ := blen_spec h0
    rw [h1]
    have : 2 ^ l < 2 ^ k := by omega
    exact (Nat.pow_lt_pow_iff_right (by omega)).1 this

/-- what is far from the limits is representable -/
theorem Is.of_dmk {N : Int} {S B : Nat} (hS : S ≤ 65536) (hN : N.natAbs < 2 ^ B) (hB : B ≤ 65536) : Is (dmk N (-S)) S N := by
  by_cases h : N = 0
  · subst h; rw [dmk_zero]; exact ⟨0, 0, rfl, Or.inl ⟨rfl, rfl⟩, by omega, by simp⟩
  · have hb := blen_le_of_lt hN
    have hnd := dmk_nd N (-S)
    obtain ⟨m, h1, h2, h3⟩ := odd_part h
    have e : dmk N (-(S : Int)) = some (m, -(S : Int) + (tzf N.natAbs : Int)) := by
      unfold dmk
      rw [if_neg h, if_neg (by omega), h3]
    rw [e] at hnd ⊢
    refine ⟨_, _, rfl, hnd, by omega, ?_⟩
    rw [show (-(S : Int) + (tzf N.natAbs : Int) + S).toNat = tzf N.natAbs by omega]
    exact h1

theorem sc_is {d : Dy} {S : Nat} {N : Int} (h : Is d S N) (hS : S ≤ 65536) : sc d = N * 2 ^ (65536 - S) := by
  obtain ⟨m, e, rfl, h1, h2, rfl⟩ := h
  unfold sc
  simp only
  rw [show (e + 65536).toNat = (e + S).toNat + (65536 - S) by omega, Int.pow_add, Int.mul_assoc]

theorem Is.add {d d' : Dy} {S : Nat} {N M : Int} (h : Is d S N) (h' : Is d' S M) (hS : S ≤ 65536) {B : Nat} (hb : (N + M).natAbs < 2 ^ B) (hB : B ≤ 65536) : Is (dadd d d') S (N + M) := by
  have e : dadd d d' = dmk (N + M) (-S) := by
    have a := sc_is h hS
    have b := sc_is h' hS
    obtain ⟨m, x, rfl, _⟩ := h
    obtain ⟨n, y, rfl, _⟩ := h'
    show dmk (sc _ + sc _) _ = _
    rw [a, b, ← Int.add_mul, dmk_shift]
    congr 1; omega
  rw [e]
  exact Is.of_dmk hS hb hB

theorem Is.neg {d : Dy} {S : Nat} {N : Int} (h : Is d S N) : Is (dneg d) S (-N) := by
  have hd := dneg_nd h.nd
  obtain ⟨m, e, rfl, h1, h2, rfl⟩ := h
  exact ⟨-m, e, rfl, hd, h2, by rw [Int.neg_mul]⟩
theorem Is.abs {d : Dy} {S : Nat} {N : Int} (h : Is d S N) : Is (dabs d) S N.natAbs := by
  have hd := dabs_nd h.nd
  obtain ⟨m, e, rfl, h1, h2, rfl⟩ := h
  refine ⟨m.natAbs, e, rfl, hd, h2, ?_⟩
  rw [natAbs_shift]; push_cast; rfl

theorem Is.mul {d d' : Dy} {S T : Nat} {N M : Int} (h : Is d S N) (h' : Is d' T M) (hS : S + T ≤ 65536) {B : Nat} (hb : (N * M).natAbs < 2 ^ B) (hB : B ≤ 65536) : Is (dmul d d') (S + T) (N * M) := by
  have e : dmul d d' = dmk (N * M) (-((S + T : Nat) : Int)) := by
    obtain ⟨m, x, rfl, _, h2, rfl⟩ := h
    obtain ⟨n, y, rfl, _, h2', rfl⟩ := h'
    show dmk (m * n) (x + y) = _
    have : m * 2 ^ (x + S).toNat * (n * 2 ^ (y + T).toNat) = m * n * 2 ^ ((x + S).toNat + (y + T).toNat) := by
      rw [Int.pow_add, Int.mul_assoc, Int.mul_left_comm (2 ^ (x + S).toNat), ← Int.mul_assoc]
    rw [this, dmk_shift]
    congr 1; omega
  rw [e]
  exact Is.of_dmk hS hb hB

theorem Is.zero {d : Dy} {S : Nat} {N : Int} (h : Is d S N) : (∃ m e, d = some (m, e) ∧ (m = 0 ↔ N = 0) ∧ (m < 0 ↔ N < 0)) := by
  obtain ⟨m, e, rfl, h1, h2, rfl⟩ := h
  have hp := two_pos (e + S).toNat
  refine ⟨m, e, rfl, ⟨fun h => by rw [h, Int.zero_mul], fun h => ?_⟩, ⟨fun h => Int.mul_neg_of_neg_of_pos h hp, fun h => ?_⟩⟩
  · rcases Int.mul_eq_zero.1 h with h | h <;> omega
  · rcases Int.lt_or_le m 0 with h3 | h3
    · exact h3
    · have := Int.mul_nonneg h3 (Int.le_of_lt hp); omega
end Go.Proofs.YtjohpdobnedilaaGreatDoor

/- A dyadic number in a block of its own, and what dyad.bad does. -/
namespace Go.Proofs.YtjohpdobnedilaaGreatDoor
open Go.RowKit

/-- block g holds a dyad with these parts, in a block of the call's own -/
def DBox (W : World) (g : Nat) (bb nb : Bool) (ao : Option Addr) (n ca : Nat) (e : Int) : Prop := W.heap[g]? = some (.cells #[.bool bb, .bool nb, .slice ao n ca, .int .i64 e] 39 (0, 0))

section
variable {W w w' : World} {g : Nat} {bb nb : Bool} {ao : Option Addr} {n ca : Nat} {e : Int}
theorem DBox.c0 (h : DBox W g bb nb ao n ca e) : W.cell? ⟨g, 0, none⟩ = some (.bool bb) := by rw [cell_of_row W g 0 _ _ _ h]; rfl
theorem DBox.c1 (h : DBox W g bb nb ao n ca e) : W.cell? ⟨g, 1, none⟩ = some (.bool nb) := by rw [cell_of_row W g 1 _ _ _ h]; rfl
theorem DBox.c2 (h : DBox W g bb nb ao n ca e) : W.cell? ⟨g, 2, none⟩ = some (.slice ao n ca) := by rw [cell_of_row W g 2 _ _ _ h]; rfl
theorem DBox.c3 (h : DBox W g bb nb ao n ca e) : W.cell? ⟨g, 3, none⟩ = some (.int .i64 e) := by rw [cell_of_row W g 3 _ _ _ h]; rfl
theorem DBox.f (h : DBox W g bb nb ao n ca e) (o : Nat) : W.frozen? ⟨g, o, none⟩ = false := by
  unfold DBox at h; simp [World.frozen?, h]
theorem DBox.lt (h : DBox w g bb nb ao n ca e) : g < w.heap.size := lt_of_cell h.c0
theorem DBox.kept {B : Nat} (h : DBox w g bb nb ao n ca e) (hb : Below B w w') (hg : g < B) : DBox w' g bb nb ao n ca e := by
  unfold DBox; rw [hb.block g hg]; exact h
theorem DBox.below (h : DBox w g bb nb ao n ca e) (hb : Below w.heap.size w w') : DBox w' g bb nb ao n ca e := h.kept hb h.lt
theorem DBox.ext (h : DBox w g bb nb ao n ca e) (hb : Ext w w') : DBox w' g bb nb ao n ca e := h.below hb
theorem DBox.only {k : Nat} (h : DBox w g bb nb ao n ca e) (ho : Only k w w') (hne : g ≠ k) : DBox w' g bb nb ao n ca e := by
  unfold DBox; rw [ho.block g hne]; exact h
end

theorem DBox.new (w : World) (bb nb : Bool) (ao : Option Addr) (n ca : Nat) (e : Int) : DBox (w.alloc (.cells #[.bool bb, .bool nb, .slice ao n ca, .int .i64 e] 39)) w.heap.size bb nb ao n ca e := heap_alloc_new w _

theorem DBox.stored {w : World} {g : Nat} {bb nb : Bool} {ao : Option Addr} {n ca : Nat} {e : Int} (h : DBox w g bb nb ao n ca e) (mbb mb : Bool) (bo : Option Addr) (m cb : Nat) (f : Int) :
    DBox ((((w.setCell ⟨g, 0, none⟩ (.bool mbb)).setCell ⟨g, 1, none⟩ (.bool mb)).setCell ⟨g, 2, none⟩ (.slice bo m cb)).setCell ⟨g, 3, none⟩ (.int .i64 f)) g mbb mb bo m cb f := by
  unfold DBox at h ⊢
  simp [World.setCell, Array.getElem?_modify, h]
theorem DBox.stored12 {w : World} {g : Nat} {bb nb : Bool} {ao : Option Addr} {n ca : Nat} {e : Int} (h : DBox w g bb nb ao n ca e) (mb : Bool) (bo : Option Addr) (m cb : Nat) :
    DBox ((w.setCell ⟨g, 1, none⟩ (.bool mb)).setCell ⟨g, 2, none⟩ (.slice bo m cb)) g bb mb bo m cb e := by
  unfold DBox at h ⊢
  simp [World.setCell, Array.getElem?_modify, h]
theorem DBox.stored1 {w : World} {g : Nat} {bb nb : Bool} {ao : Option Addr} {n ca : Nat} {e : Int} (h : DBox w g bb nb ao n ca e) (mb : Bool) :
    DBox (w.setCell ⟨g, 1, none⟩ (.bool mb)) g bb mb ao n ca e := by
  unfold DBox at h ⊢
  simp [World.setCell, Array.getElem?_modify, h]
theorem only_set4 (w : World) (g : Nat) (u v x y : Value) : Only g w ((((w.setCell ⟨g, 0, none⟩ u).setCell ⟨g, 1, none⟩ v).setCell ⟨g, 2, none⟩ x).setCell ⟨g, 3, none⟩ y) := ((((Only.refl g w).setCell _ _).setCell _ _).setCell _ _).setCell _ _
theorem only_set12 (w : World) (g : Nat) (u v : Value) : Only g w ((w.setCell ⟨g, 1, none⟩ u).setCell ⟨g, 2, none⟩ v) := ((Only.refl g w).setCell _ _).setCell _ _

/-- limbs do not lie in a dyad's block -/
theorem At.only_dbox {w w' : World} {g : Nat} {bb nb : Bool} {ao ro : Option Addr} {n cap : Nat} {f : Int} {zs : List Int} (hx : DBox w g bb nb ao n cap f) (h : At w ro zs) (ho : Only g w w') : At w' ro zs := by
  intro h0
  obtain ⟨b, off, e, hc⟩ := h h0
  refine ⟨b, off, e, fun j hj => ?_⟩
  have hne : b ≠ g := by
    rintro rfl
    have := hc j hj
    rw [cell_of_row w b (off + j) _ _ _ hx] at this
    match off + j, this with
    | 0, this => simp at this
    | 1, this => simp at this
    | 2, this => simp at this
    | 3, this => simp at this
    | k + 4, this => simp at this
  rw [World.cell?_of_block (w := w) (ho.block b hne)]
  exact hc j hj
theorem Sl.only_dbox {w w' : World} {g : Nat} {bb nb : Bool} {ao ro : Option Addr} {n cap k cr : Nat} {f : Int} {zs : List Int} (h : Sl w ro k cr zs) (hx : DBox w g bb nb ao n cap f) (ho : Only g w w') : Sl w' ro k cr zs :=
  ⟨h.len, h.cap, h.big, h.wf, h.cells.only_dbox hx ho⟩
theorem Bn.only_dbox {w w' : World} {g : Nat} {bb nb mb : Bool} {ao ro : Option Addr} {n cap k cr : Nat} {f x : Int} (h : Bn w mb ro k cr x) (hx : DBox w g bb nb ao n cap f) (ho : Only g w w') : Bn w' mb ro k cr x :=
  ⟨h.neg, h.sl.only_dbox hx ho⟩
theorem Bg.only_dbox {w w' : World} {g : Nat} {bb nb mb : Bool} {ao ro : Option Addr} {n cap k cr : Nat} {f x : Int} (h : Bg w mb ro k cr x) (hx : DBox w g bb nb ao n cap f) (ho : Only g w w') : Bg w' mb ro k cr x := by
  obtain ⟨⟨zs, h1, h2⟩, h3⟩ := h
  exact ⟨⟨zs, h1.only_dbox hx ho, h2⟩, h3⟩

theorem dbox_new (w : World) (bb nb : Bool) (ao : Option Addr) (n ca : Nat) (e : Int) :
    ∃ W, W = w.alloc (.cells #[.bool bb, .bool nb, .slice ao n ca, .int .i64 e] 39) ∧ Below w.heap.size w W ∧ DBox W w.heap.size bb nb ao n ca e ∧ w.heap.size + 1 ≤ W.heap.size :=
  ⟨_, rfl, (Below.refl _ w).alloc (Nat.le_refl _) _, DBox.new w bb nb ao n ca e, by simp⟩

/-- an integer boxed, and the place of a dyad -/
theorem boxes_bd (w : World) (nb : Bool) (ao : Option Addr) (n cap : Nat) :
    ∃ W, W = (w.alloc (.cells #[.bool nb, .slice ao n cap] 37)).alloc (.cells #[.bool false, .bool false, .slice none 0 0, .int .i64 0] 39) ∧ Below w.heap.size w W ∧ Box W w.heap.size nb ao n cap ∧ DBox W (w.heap.size + 1) false false none 0 0 0 ∧ w.heap.size + 2 ≤ W.heap.size := by
  refine ⟨_, rfl, ((Below.refl _ w).alloc (Nat.le_refl _) _).alloc (by simp) _, ?_, ?_, by simp⟩
  · exact (Box.new w nb ao n cap).below ((Below.refl _ _).alloc (Nat.le_refl _) _)
  · have := DBox.new (w.alloc (.cells #[.bool nb, .slice ao n cap] 37)) false false none 0 0 0
    simpa using this

/-- a dyad boxed, and the place of a dyad -/
theorem boxes_dd (w : World) (bb nb : Bool) (ao : Option Addr) (n cap : Nat) (e : Int) :
    ∃ W, W = (w.alloc (.cells #[.bool bb, .bool nb, .slice ao n cap, .int .i64 e] 39)).alloc (.cells #[.bool false, .bool false, .slice none 0 0, .int .i64 0] 39) ∧ Below w.heap.size w W ∧ DBox W w.heap.size bb nb ao n cap e ∧ DBox W (w.heap.size + 1) false false none 0 0 0 ∧ w.heap.size + 2 ≤ W.heap.size := by
  refine ⟨_, rfl, ((Below.refl _ w).alloc (Nat.le_refl _) _).alloc (by simp) _, ?_, ?_, by simp⟩
  · exact (DBox.new w bb nb ao n cap e).below ((Below.refl _ _).alloc (Nat.le_refl _) _)
  · have := DBox.new (w.alloc (.cells #[.bool bb, .bool nb, .slice ao n cap, .int .i64 e] 39)) false false none 0 0 0
    simpa using this

/-- two dyads boxed, and the place of a dyad -/
theorem boxes_ddd (w : World) (bb nb : Bool) (ao : Option Addr) (n cap : Nat) (e : Int) (cb mb : Bool) (bo : Option Addr) (m cap' : Nat) (f : Int) :
    ∃ W, W = ((w.alloc (.cells #[.bool bb, .bool nb, .slice ao n cap, .int .i64 e] 39)).alloc (.cells #[.bool cb, .bool mb, .slice bo m cap', .int .i64 f] 39)).alloc (.cells #[.bool false, .bool false, .slice none 0 0, .int .i64 0] 39) ∧ Below w.heap.size w W ∧
      DBox W w.heap.size bb nb ao n cap e ∧ DBox W (w.heap.size + 1) cb mb bo m cap' f ∧ DBox W (w.heap.size + 1 + 1) false false none 0 0 0 ∧ w.heap.size + 3 ≤ W.heap.size := by
  refine ⟨_, rfl, (((Below.refl _ w).alloc (Nat.le_refl _) _).alloc (by simp) _).alloc (by simp; omega) _, ?_, ?_, ?_, by simp⟩
  · exact (DBox.new w bb nb ao n cap e).below (((Below.refl _ _).alloc (Nat.le_refl _) _).alloc (by simp) _)
  · have := (DBox.new (w.alloc (.cells #[.bool bb, .bool nb, .slice ao n cap, .int .i64 e] 39)) cb mb bo m cap' f).below ((Below.refl _ _).alloc (Nat.le_refl _) (.cells #[.bool false, .bool false, .slice none 0 0, .int .i64 0] 39))
    simpa using this
  · have := DBox.new ((w.alloc (.cells #[.bool bb, .bool nb, .slice ao n cap, .int .i64 e] 39)).alloc (.cells #[.bool cb, .bool mb, .slice bo m cap', .int .i64 f] 39)) false false none 0 0 0
    simpa using this

/-- the parts of a dyad: zeros for none -/
def dm (d : Dy) : Int := (d.getD (0, 0)).1
def dx (d : Dy) : Int := (d.getD (0, 0)).2

/-- the value v is the normalized dyad d -/
def Dn (w : World) (v : Value) (d : Dy) : Prop := Nd d ∧ ∃ nb ao n ca, v = .agg #[.bool d.isNone, .bool nb, .slice ao n ca, .int .i64 (dx d)] ∧ Bn w nb ao n ca (dm d)

set_option maxRecDepth 100000 in
set_option maxHeartbeats 1000000 in
theorem bad_any (w : World) :
    Calls Tryz.prog 99 #[] w fun e w' => e = .returned (.agg #[.bool true, .bool false, .slice none 0 0, .int .i64 0]) ∧ Ext w w' := by
  go_enter Tryz.func99, Tryz.ntmps99
  go_wp2
  exact bodyPost_ret (v := .agg #[.bool true, .bool false, .slice none 0 0, .int .i64 0]) (by simp [results, Tryz.results99, go_sem]) rfl ⟨rfl, ((Below.refl _ _).alloc (Nat.le_refl _) _)⟩

/-- a shift down by any number of bits, none included -/
theorem shift_down0 (nb : Bool) (ao : Option Addr) (n cap : Nat) (x : Int) (k : Nat) (w : World) (h : Bg w nb ao n cap x) (hk : k ≤ 1048576) (hT : Table w) :
    Calls Tryz.prog 46 #[.agg #[.bool nb, .slice ao n cap], .int .i64 (-(k : Int))] w fun e w' => ∃ nr ro l cr, e = .returned (.tuple #[.agg #[.bool nr, .slice ro l cr], .int .i64 0]) ∧ Bn w' nr ro l cr (x / 2 ^ k) ∧ Below w.heap.size w w' := by
  rcases Nat.eq_zero_or_pos k with rfl | hk0
  · have := shift_left nb ao n cap x 0 w h (by omega)
    simpa using this
  · exact shift_right nb ao n cap x k w h hk hk0 hT

theorem drop_sl {w : World} {b off n ca s : Nat} {zs : List Int} (ha : Sl w (some ⟨b, off, none⟩) n ca zs) (hs : s ≤ n) : Sl w (some ⟨b, off + s, none⟩) (n - s) (ca - s) (zs.drop s) :=
  ⟨by rw [List.length_drop, ha.len], by have := ha.cap; omega, by have := ha.big; omega, ha.wf.drop s, fun h0 => by
    rw [List.length_drop, ha.len] at h0
    obtain ⟨b', off', e, hc⟩ := ha.cells (by rw [ha.len]; omega)
    cases e
    refine ⟨b, off + s, rfl, fun j hj => ?_⟩
    rw [List.length_drop, ha.len] at hj
    have := hc (s + j) (by rw [ha.len]; omega)
    rw [show off + s + j = off + (s + j) by omega, this]
    simp [List.getD, List.getElem?_drop]⟩

theorem cast3 (c s k m : Nat) : ((c ^ s * 2 ^ k * (2 * m + 1) : Nat) : Int) = (c : Int) ^ s * (2 ^ k * (2 * (m : Int) + 1)) := by push_cast; rw [Int.mul_assoc]
theorem cast2 (c s k : Nat) : ((c ^ s * 2 ^ k : Nat) : Int) = (c : Int) ^ s * 2 ^ k := by push_cast; rfl
/-- whole limbs of zeros dropped -/
theorem drop_val {nb : Bool} {zs : List Int} {x : Int} {t s k : Nat} (hz : Wf zs) (hx : x = sgd nb zs) (h0 : x ≠ 0) (ht : IsTz x.natAbs t) (hsk : t = s * 32 + k) :
    s < zs.length ∧ sgd nb (zs.drop s) / 2 ^ k = x / 2 ^ t := by
  have ha := sgd_natAbs (nb := nb) hz
  rw [← hx] at ha
  have hn := num_nonneg hz
  have hlt := num_lt hz
  obtain ⟨_, m, hm⟩ : x.natAbs ≠ 0 ∧ ∃ m, x.natAbs = 2 ^ t * (2 * m + 1) := by
    rcases ht with ⟨h, _⟩ | h
    · omega
    · exact h
  have hp : (2 : Nat) ^ t = 4294967296 ^ s * 2 ^ k := by rw [hsk, pow32]
  have hs : s < zs.length := by
    by_cases hs : s < zs.length
    · exact hs
    · exfalso
      have h1 : (4294967296 : Nat) ^ zs.length ≤ 4294967296 ^ s := Nat.pow_le_pow_right (by omega) (by omega)
      have h2 : x.natAbs < 4294967296 ^ zs.length := by
        rw [ha]
        have h3 : ((num zs).toNat : Int) < ((4294967296 ^ zs.length : Nat) : Int) := by rw [Int.toNat_of_nonneg hn, Int.natCast_pow]; exact hlt
        exact Int.ofNat_lt.1 h3
      have h4 : 4294967296 ^ s * 1 ≤ 4294967296 ^ s * (2 ^ k * (2 * m + 1)) := Nat.mul_le_mul_left _ (Nat.mul_pos (Nat.pos_of_ne_zero (by simp)) (by omega))
      rw [hm, hp, Nat.mul_assoc] at h2
      omega
  refine ⟨hs, ?_⟩
  have hd := num_drop_div hz s (by omega)
  have hb : num zs = 4294967296 ^ s * (2 ^ k * (2 * (m : Int) + 1)) := by
    have h5 : num zs = ((num zs).toNat : Int) := (Int.toNat_of_nonneg hn).symm
    rw [h5, ← ha, hm, hp]
    exact cast3 4294967296 s k m
  have hp0 := pow_pos' s
  rw [hb, Int.mul_ediv_cancel_left _ (by omega)] at hd
  have hpi : (2 : Int) ^ t = 4294967296 ^ s * 2 ^ k := by
    have h6 : (2 : Int) ^ t = ((2 ^ t : Nat) : Int) := by rw [Int.natCast_pow]; rfl
    rw [h6, hp]
    exact cast2 4294967296 s k
  have hk0 := two_pos k
  unfold sgd at hx ⊢
  cases nb with
  | false =>
    simp only [Bool.false_eq_true, if_false] at hx ⊢
    rw [hx, hb, hd, hpi, Int.mul_ediv_mul_of_pos _ _ hp0]
  | true =>
    simp only [if_true] at hx ⊢
    rw [hx, hb, hd, hpi, ← Int.mul_neg (4294967296 ^ s), Int.mul_ediv_mul_of_pos _ _ hp0]

theorem bn_self {w : World} {nb : Bool} {ao : Option Addr} {n ca : Nat} {zs : List Int} {x : Int} (hs : Sl w ao n ca zs) (hx : x = sgd nb zs) (h0 : x ≠ 0) (hl : zs.getD (n - 1) 0 ≠ 0) : Bn w nb ao n ca x := by
  have ha := sgd_natAbs (nb := nb) hs.wf
  rw [← hx] at ha
  have hn := num_nonneg hs.wf
  have e : limbs x.natAbs = zs := by
    rw [ha, limbs_num hs.wf]
    intro m hm
    have := hs.len
    rwa [show n - 1 = m by omega] at hl
  refine ⟨?_, by rw [e]; exact hs⟩
  unfold sgd at hx
  cases nb <;> simp at hx <;> simp <;> omega

set_option maxRecDepth 100000 in
set_option maxHeartbeats 2000000 in
theorem oddPart_any (nb : Bool) (ao : Option Addr) (n ca : Nat) (x : Int) (t : Nat) (w : World) (h : Bg w nb ao n ca x) (h0 : x ≠ 0) (ht : IsTz x.natAbs t) (hT : Table w) :
    Calls Tryz.prog 186 #[.agg #[.bool nb, .slice ao n ca], .int .i64 (t : Int)] w fun e w' => ∃ nr ro k cr, e = .returned (.agg #[.bool nr, .slice ro k cr]) ∧ Bn w' nr ro k cr (x / 2 ^ t) ∧ Ext w w' := by
  obtain ⟨⟨zs, hs, hx⟩, hsm⟩ := h
  obtain ⟨hsn, hval⟩ := drop_val (s := t / 32) (k := t % 32) hs.wf hx h0 ht (by omega)
  rw [hs.len] at hsn
  have HX := Lib.hid hx; clear hx
  have HV := Lib.hid hval; clear hval
  have H0 := Lib.hid h0; clear h0
  go_enter Tryz.func186, Tryz.ntmps186
  go_upto_region 1 with fail
  obtain ⟨W, hW, hB, hbx, hrx, hz⟩ := boxes1 w nb ao n ca
  rw [← hW]
  clear hW
  have hs := hs.below hB
  have HT := Lib.hid hT
  generalize hBe : w.heap.size = B at *
  have HBe := Lib.hid hBe; clear hBe
  have hself := bn_self hs HX.out H0.out
  obtain ⟨bb, ob, rfl, hcb⟩ := hs.cells (by rw [hs.len]; omega)
  have hlast := hcb (n - 1) (by rw [hs.len]; omega)
  have hlen := hs.len
  have hcap := hs.cap
  have hlr := hs.wf.getD (n - 1)
  obtain ⟨l, hl⟩ : ∃ l, zs.getD (n - 1) 0 = l := ⟨_, rfl⟩
  rw [hl] at hlast hlr hself
  have HL := Lib.hid hl; clear hl
  have HLEN := Lib.hid hlen; clear hlen
  have k0 := hbx.c0
  have k1 := hbx.c1
  have k2 := hbx.f 1
  have hsub := drop_sl hs (Nat.le_of_lt hsn)
  clear hcb ht hT
  have q0 := hrx.c0
  have q1 := hrx.c1
  have q2 := hrx.f 0
  have q3 := hrx.f 1
  by_cases hcase : t = 0 ∧ l ≠ 0
  · obtain ⟨rfl, hl0⟩ := hcase
    have hl1 : (l != 0) = true := by simpa using hl0
    have hself := hself hl0
    have z3 := hrx.stored nb (some ⟨bb, ob, none⟩) n ca
    have z0 := z3.c0
    have z1 := z3.c1
    have hres : Bn ((W.setCell ⟨B + 1, 0, none⟩ (.bool nb)).setCell ⟨B + 1, 1, none⟩ (.slice (some ⟨bb, ob, none⟩) n ca)) nb (some ⟨bb, ob, none⟩) n ca x := ⟨hself.neg, hself.sl.only_box hrx (only_set2 _ _ _ _)⟩
    have HRES := Lib.hid hres; clear hres hself hsub z3
    go_wp2
    refine bodyPost_ret (v := .agg #[.bool nb, .slice (some ⟨bb, ob, none⟩) n ca]) (by simp [results, Tryz.results186, go_sem, z0, z1]) rfl ⟨nb, _, n, ca, rfl, ?_, ?_⟩
    · simpa using HRES.out
    · show Below _ _ _; rw [HBe.out]; exact hB.trans ((only_set2 _ _ _ _).below (by omega))
  · clear hself
    obtain ⟨tx, htx⟩ : ∃ tx : Int, (t : Int) = tx := ⟨_, rfl⟩
    have hd : tx / 32 = ((t / 32 : Nat) : Int) := by omega
    have hr : tx % 32 = ((t % 32 : Nat) : Int) := by omega
    have hk : t % 32 ≤ 1048576 := by omega
    rw [htx]
    have hx0 : 0 ≤ tx := by omega
    have hx1 : tx ≤ 100000000000 := by omega
    have htl : (tx == 0) = false ∨ ((tx == 0) = true ∧ (l != 0) = false) := by
      by_cases h1 : t = 0
      · right; constructor
        · simp; omega
        · have : ¬ l ≠ 0 := fun h2 => hcase ⟨h1, h2⟩
          simpa using this
      · left; simp; omega
    generalize t / 32 = sk at *
    generalize t % 32 = k at *
    have HTX := Lib.hid htx; clear htx hcase
    have ho := only_set1 W B 1 (.slice (some ⟨bb, ob + sk, none⟩) (n - sk) (ca - sk))
    have hs1 := hsub.only_box hbx ho
    have hbg : Bg (W.setCell ⟨B, 1, none⟩ (.slice (some ⟨bb, ob + sk, none⟩) (n - sk) (ca - sk))) nb (some ⟨bb, ob + sk, none⟩) (n - sk) (ca - sk) (sgd nb (zs.drop sk)) := ⟨⟨_, hs1, rfl⟩, by omega⟩
    have hB1 := hB.trans (ho.below (Nat.le_refl B))
    have hT1 := HT.out.below (by rw [HBe.out]; exact hB1)
    have b1 := hrx.only ho (by omega)
    have bx : Box (W.setCell ⟨B, 1, none⟩ (.slice (some ⟨bb, ob + sk, none⟩) (n - sk) (ca - sk))) B nb (some ⟨bb, ob + sk, none⟩) (n - sk) (ca - sk) := by
      have := hbx
      unfold Box at this ⊢
      simp [World.setCell, Array.getElem?_modify, this]
    have hz1 : B + 2 ≤ (W.setCell ⟨B, 1, none⟩ (.slice (some ⟨bb, ob + sk, none⟩) (n - sk) (ca - sk))).heap.size := by rw [ho.size]; exact hz
    have HBG := Lib.hid hbg; clear hbg
    have HT1 := Lib.hid hT1; clear hT1
    have HB1 := Lib.hid hB1; clear hB1
    clear ho hs1 hsub hs
    rcases htl with htl | ⟨htl, hl1⟩
    all_goals
      go_wp2_with fail
      refine (shift_down0 _ _ _ _ _ _ _ HBG.out hk HT1.out).mono ?_
      rintro e w2 ⟨nr, ro, l2, cr, rfl, hr2, hw2⟩
      have b2 := b1.below hw2
      have hB2 := bnext HB1.out (by omega) hw2
      rw [HV.out] at hr2
      clear hlast k0 k1 k2 q0 q1 q2 q3 bx b1 hd hr
      go_upto_region 5 with fail
      obtain ⟨V, hV, hv, c1, hz2⟩ := box_new w2 nr ro l2 cr
      rw [← hV]
      clear hV
      have b3 := b2.below hv
      have hr3 := hr2.below hv
      obtain ⟨hB3, hB3'⟩ := bnext hB2.1 hB2.2 hv
      have k0 := c1.c0
      have k1 := c1.c1
      have q2 := b3.f 0
      have q3 := b3.f 1
      have q0 := b3.c0
      have q1 := b3.c1
      have z3 := b3.stored nr ro l2 cr
      have z0 := z3.c0
      have z1 := z3.c1
      have hres : Bn ((V.setCell ⟨B + 1, 0, none⟩ (.bool nr)).setCell ⟨B + 1, 1, none⟩ (.slice ro l2 cr)) nr ro l2 cr (x / 2 ^ t) := ⟨hr3.neg, hr3.sl.only_box b3 (only_set2 _ _ _ _)⟩
      have HRES := Lib.hid hres; clear hres
      go_wp2
      refine bodyPost_ret (v := .agg #[.bool nr, .slice ro l2 cr]) (by simp [results, Tryz.results186, go_sem, z0, z1]) rfl ⟨nr, _, l2, cr, rfl, HRES.out, ?_⟩
      show Below _ _ _; rw [HBe.out]; exact hB3.trans ((only_set2 _ _ _ _).below (by omega))

theorem bg_blen {w : World} {nb : Bool} {ao : Option Addr} {n ca : Nat} {x : Int} (h : Bg w nb ao n ca x) : blen x.natAbs ≤ 32 * n := by
  obtain ⟨⟨zs, hs, hx⟩, _⟩ := h
  refine blen_limbs ?_
  rw [hx, sgd_natAbs hs.wf]
  have h1 := num_lt hs.wf
  have h2 := num_nonneg hs.wf
  rw [hs.len] at h1
  have h3 : ((num zs).toNat : Int) < ((4294967296 ^ n : Nat) : Int) := by rw [Int.toNat_of_nonneg h2, Int.natCast_pow]; exact h1
  exact Int.ofNat_lt.1 h3

theorem tzf_lt {a : Nat} (h : a ≠ 0) : tzf a < blen a := by
  rcases tzf_isTz a with ⟨h0, _⟩ | ⟨_, m, hm⟩
  · exact absurd h0 h
  · obtain ⟨l, h1, h2, h3⟩ := blen_spec h
    rw [h1]
    have h4 : 2 ^ tzf a * 1 ≤ 2 ^ tzf a * (2 * m + 1) := Nat.mul_le_mul_left _ (by omega)
    rw [← hm] at h4
    have : 2 ^ tzf a < 2 ^ (l + 1) := by omega
    exact (Nat.pow_lt_pow_iff_right (by omega)).1 this

theorem dn_bad (w : World) : Dn w (.agg #[.bool true, .bool false, .slice none 0 0, .int .i64 0]) none :=
  ⟨trivial, false, none, 0, 0, rfl, ⟨rfl, by simp [dm, limbs_zero]; exact Sl.nil w⟩⟩
theorem dn_zero (w : World) : Dn w (.agg #[.bool false, .bool false, .slice none 0 0, .int .i64 0]) (some (0, 0)) :=
  ⟨Or.inl ⟨rfl, rfl⟩, false, none, 0, 0, rfl, ⟨rfl, by simp [dm, limbs_zero]; exact Sl.nil w⟩⟩
theorem Dn.ext {w w' : World} {v : Value} {d : Dy} (h : Dn w v d) (he : Ext w w') : Dn w' v d := by
  obtain ⟨h0, nb, ao, n, ca, h1, h2⟩ := h
  exact ⟨h0, nb, ao, n, ca, h1, h2.below he⟩
theorem Dn.only_dbox {w w' : World} {g : Nat} {bb nb : Bool} {ao : Option Addr} {n cap : Nat} {f : Int} {v : Value} {d : Dy} (h : Dn w v d) (hx : DBox w g bb nb ao n cap f) (ho : Only g w w') : Dn w' v d := by
  obtain ⟨h0, nb, ao, n, ca, h1, h2⟩ := h
  exact ⟨h0, nb, ao, n, ca, h1, h2.only_dbox hx ho⟩

/-- the ends of a dyad's function: the result lies in its place -/
theorem dn_stored {w : World} {g B : Nat} {bb nb mbb mb : Bool} {ao bo : Option Addr} {n ca m cb : Nat} {e f : Int} {d : Dy} (hx : DBox w g bb nb ao n ca e) (h : Dn w (.agg #[.bool mbb, .bool mb, .slice bo m cb, .int .i64 f]) d) (w0 : World) (hb : Below B w0 w) (hg : B ≤ g) :
    Dn ((((w.setCell ⟨g, 0, none⟩ (.bool mbb)).setCell ⟨g, 1, none⟩ (.bool mb)).setCell ⟨g, 2, none⟩ (.slice bo m cb)).setCell ⟨g, 3, none⟩ (.int .i64 f)) (.agg #[.bool mbb, .bool mb, .slice bo m cb, .int .i64 f]) d ∧
    Below B w0 ((((w.setCell ⟨g, 0, none⟩ (.bool mbb)).setCell ⟨g, 1, none⟩ (.bool mb)).setCell ⟨g, 2, none⟩ (.slice bo m cb)).setCell ⟨g, 3, none⟩ (.int .i64 f)) :=
  ⟨h.only_dbox hx (only_set4 _ _ _ _ _ _), hb.trans ((only_set4 _ _ _ _ _ _).below hg)⟩

set_option maxRecDepth 100000 in
set_option maxHeartbeats 2000000 in
theorem dreduce_any (nb : Bool) (ao : Option Addr) (n ca : Nat) (x f : Int) (w : World) (h : Bg w nb ao n ca x) (hf0 : -9223372036854775808 ≤ f) (hf1 : f ≤ 9223372036854775807) (hT : Table w) :
    Calls Tryz.prog 137 #[.agg #[.bool nb, .slice ao n ca], .int .i64 f] w fun e w' => ∃ v, e = .returned v ∧ Dn w' v (dmk x f) ∧ Ext w w' := by
  have hbl := bg_blen h
  have hsm := h.small
  have hnd := dmk_nd x f
  go_enter Tryz.func137, Tryz.ntmps137
  go_upto_region 1 with fail
  obtain ⟨W, hW, hB, hbx, hrx, hz⟩ := boxes_bd w nb ao n ca
  rw [← hW]
  clear hW
  have h := h.below hB
  have HT := Lib.hid (hT.below hB)
  generalize hBe : w.heap.size = B at *
  have HBe := Lib.hid hBe; clear hBe hT
  have k0 := hbx.c0
  have k1 := hbx.c1
  go_wp2_with fail
  refine (sign_any _ _ _ _ _ _ h).mono ?_
  rintro e w1 ⟨rfl, hw1⟩
  have h := h.below hw1
  have b1 := hbx.below hw1
  have c1 := hrx.below hw1
  have HT := Lib.hid (HT.out.below hw1)
  obtain ⟨hB1, hB1'⟩ := bnext hB (by omega) hw1
  have hz1 := hw1.size
  clear k0 k1 hbx hrx hB hw1
  by_cases h0 : x = 0
  · have hs0 : sgn3 x 0 = 0 := by simp [sgn3, h0]
    rw [hs0]
    have H0 := Lib.hid h0; clear h0
    have q0 := c1.c0
    have q1 := c1.c1
    have q2 := c1.c2
    have q3 := c1.c3
    have f0 := c1.f 0
    have f1 := c1.f 1
    have f2 := c1.f 2
    have f3 := c1.f 3
    have hres := dn_stored c1 (dn_zero w1) w hB1 (Nat.le_succ B)
    have z3 := c1.stored false false none 0 0 0
    have z0 := z3.c0
    have z1 := z3.c1
    have z2 := z3.c2
    have z4 := z3.c3
    have HRES := Lib.hid hres; clear hres z3
    go_wp2
    refine bodyPost_ret (v := .agg #[.bool false, .bool false, .slice none 0 0, .int .i64 0]) (by simp [results, Tryz.results137, go_sem, z0, z1, z2, z4]) rfl ⟨_, rfl, ?_, ?_⟩
    · rw [H0.out, dmk_zero]; exact HRES.out.1
    · show Below _ _ _; rw [HBe.out]; exact HRES.out.2
  · have hs0 : (sgn3 x 0 == 0) = false := by
      have : sgn3 x 0 ≠ 0 := fun h => h0 (sgn3_zero h)
      simpa using this
    have k0 := b1.c0
    have k1 := b1.c1
    have hl := tzf_lt (a := x.natAbs) (by omega)
    go_wp2_with fail
    refine (trailingZerosOut_any _ _ _ _ _ _ h HT.out).mono ?_
    rintro e w2 ⟨t, rfl, ht, hw2⟩
    have htt := tzf_of ht
    have h := h.below hw2
    have b2 := b1.below hw2
    have c2 := c1.below hw2
    have HT := Lib.hid (HT.out.below hw2)
    obtain ⟨hB2, hB2'⟩ := bnext hB1 (by omega) hw2
    have hz2 := hw2.size
    clear k0 k1 b1 c1 hw2 hs0
    rw [← htt] at hl
    have hdm : dmk x f = if f < -65536 - (t : Int) ∨ 65536 - (blen x.natAbs : Int) < f then none else some (x / 2 ^ t, f + t) := by
      unfold dmk; rw [if_neg h0, htt]
    have H0 := Lib.hid h0; clear h0
    have HTT := Lib.hid htt; clear htt
    have HTZ := Lib.hid ht; clear ht
    generalize hbb : blen x.natAbs = bl at *
    have HBB := Lib.hid hbb; clear hbb
    have k0 := b2.c0
    have k1 := b2.c1
    by_cases hc1 : f < -65536 - (t : Int)
    · rw [if_pos (Or.inl hc1)] at hdm
      have HDM := Lib.hid hdm; clear hdm
      go_wp2_with fail
      refine (bad_any _).mono ?_
      rintro e w3 ⟨rfl, hw3⟩
      have c3 := c2.below hw3
      obtain ⟨hB3, hB3'⟩ := bnext hB2 (by omega) hw3
      have q0 := c3.c0
      have q1 := c3.c1
      have q2 := c3.c2
      have q3 := c3.c3
      have f0 := c3.f 0
      have f1 := c3.f 1
      have f2 := c3.f 2
      have f3 := c3.f 3
      have hres := dn_stored c3 (dn_bad w3) w hB3 (Nat.le_succ B)
      have z3 := c3.stored true false none 0 0 0
      have z0 := z3.c0
      have z1 := z3.c1
      have z2 := z3.c2
      have z4 := z3.c3
      have HRES := Lib.hid hres; clear hres z3
      go_wp2
      refine bodyPost_ret (v := .agg #[.bool true, .bool false, .slice none 0 0, .int .i64 0]) (by simp [results, Tryz.results137, go_sem, z0, z1, z2, z4]) rfl ⟨_, rfl, ?_, ?_⟩
      · rw [HDM.out]; exact HRES.out.1
      · show Below _ _ _; rw [HBe.out]; exact HRES.out.2
    · by_cases hc2 : 65536 - (bl : Int) < f
      · rw [if_pos (Or.inr hc2)] at hdm
        have HDM := Lib.hid hdm; clear hdm
        go_wp2_with fail
        refine (bitLenOut_any _ _ _ _ _ _ h).mono ?_
        rintro e w3 ⟨rfl, hw3⟩
        rw [HBB.out]
        have c3 := c2.below hw3
        obtain ⟨hB3, hB3'⟩ := bnext hB2 (by omega) hw3
        have hz3 := hw3.size
        go_wp2_with fail
        refine (bad_any _).mono ?_
        rintro e w4 ⟨rfl, hw4⟩
        have c4 := c3.below hw4
        obtain ⟨hB4, hB4'⟩ := bnext hB3 (by omega) hw4
        have q0 := c4.c0
        have q1 := c4.c1
        have q2 := c4.c2
        have q3 := c4.c3
        have f0 := c4.f 0
        have f1 := c4.f 1
        have f2 := c4.f 2
        have f3 := c4.f 3
        have hres := dn_stored c4 (dn_bad w4) w hB4 (Nat.le_succ B)
        have z3 := c4.stored true false none 0 0 0
        have z0 := z3.c0
        have z1 := z3.c1
        have z2 := z3.c2
        have z4 := z3.c3
        have HRES := Lib.hid hres; clear hres z3
        go_wp2
        refine bodyPost_ret (v := .agg #[.bool true, .bool false, .slice none 0 0, .int .i64 0]) (by simp [results, Tryz.results137, go_sem, z0, z1, z2, z4]) rfl ⟨_, rfl, ?_, ?_⟩
        · rw [HDM.out]; exact HRES.out.1
        · show Below _ _ _; rw [HBe.out]; exact HRES.out.2
      · rw [if_neg (by omega)] at hdm
        go_wp2_with fail
        refine (bitLenOut_any _ _ _ _ _ _ h).mono ?_
        rintro e w3 ⟨rfl, hw3⟩
        rw [HBB.out]
        have h := h.below hw3
        have b3 := b2.below hw3
        have c3 := c2.below hw3
        have HT := Lib.hid (HT.out.below hw3)
        obtain ⟨hB3, hB3'⟩ := bnext hB2 (by omega) hw3
        have hz3 := hw3.size
        clear k0 k1 hw3
        have k0 := b3.c0
        have k1 := b3.c1
        rw [hdm] at hnd
        have HND := Lib.hid hnd; clear hnd
        have HDM := Lib.hid hdm; clear hdm
        go_wp2_with fail
        refine (oddPart_any _ _ _ _ _ _ _ h H0.out HTZ.out HT.out).mono ?_
        rintro e w4 ⟨nr, ro, l, cr, rfl, hr, hw4⟩
        have c4 := c3.below hw4
        obtain ⟨hB4, hB4'⟩ := bnext hB3 (by omega) hw4
        have hdn : Dn w4 (.agg #[.bool false, .bool nr, .slice ro l cr, .int .i64 (f + t)]) (some (x / 2 ^ t, f + t)) := ⟨HND.out, nr, ro, l, cr, rfl, hr⟩
        clear k0 k1
        have q0 := c4.c0
        have q1 := c4.c1
        have q2 := c4.c2
        have q3 := c4.c3
        have f0 := c4.f 0
        have f1 := c4.f 1
        have f2 := c4.f 2
        have f3 := c4.f 3
        have hres := dn_stored c4 hdn w hB4 (Nat.le_succ B)
        have z3 := c4.stored false nr ro l cr (f + t)
        have z0 := z3.c0
        have z1 := z3.c1
        have z2 := z3.c2
        have z4 := z3.c3
        have HRES := Lib.hid hres; clear hres z3
        go_wp2
        refine bodyPost_ret (v := .agg #[.bool false, .bool nr, .slice ro l cr, .int .i64 (f + t)]) (by simp [results, Tryz.results137, go_sem, z0, z1, z2, z4]) rfl ⟨_, rfl, ?_, ?_⟩
        · rw [HDM.out]; exact HRES.out.1
        · show Below _ _ _; rw [HBe.out]; exact HRES.out.2
end Go.Proofs.YtjohpdobnedilaaGreatDoor

/- What dyad.normal, Make, Norm, Valid, FromInt and FromBig do. -/
namespace Go.Proofs.YtjohpdobnedilaaGreatDoor
open Go.RowKit

/-- the value v reads as the dyad d, normalized or not -/
def Dg (w : World) (v : Value) (d : Dy) : Prop :=
  ∃ bb nb ao n ca x f, v = .agg #[.bool bb, .bool nb, .slice ao n ca, .int .i64 f] ∧ Bg w nb ao n ca x ∧ -9223372036854775808 ≤ f ∧ f ≤ 9223372036854775807 ∧ d = if bb then none else dmk x f

theorem Dg.ext {w w' : World} {v : Value} {d : Dy} (h : Dg w v d) (he : Ext w w') : Dg w' v d := by
  obtain ⟨bb, nb, ao, n, ca, x, f, h1, h2, h3⟩ := h
  exact ⟨bb, nb, ao, n, ca, x, f, h1, h2.below he, h3⟩

theorem nd_blen {d : Dy} (h : Nd d) : blen (dm d).natAbs ≤ 131072 ∧ -65536 ≤ dx d ∧ dx d ≤ 65536 := by
  cases d with
  | none => simp [dm, dx, blen]
  | some p =>
    obtain ⟨m, e⟩ := p
    show blen m.natAbs ≤ 131072 ∧ -65536 ≤ e ∧ e ≤ 65536
    rcases h with ⟨rfl, rfl⟩ | ⟨h1, h2, h3⟩
    · simp [blen]
    · omega

theorem blen_lt (a : Nat) : a < 2 ^ blen a := by
  by_cases h : a = 0
  · subst h; simp [blen]
  · obtain ⟨l, h1, _, h3⟩ := blen_spec h
    rw [h1]; exact h3

theorem limbs_of_blen {a k : Nat} (h : blen a ≤ 32 * k) : (limbs a).length ≤ k := by
  rw [limbs_len_le]
  exact Nat.lt_of_lt_of_le (blen_lt a) (pow_limbs h)

theorem Dn.dg {w : World} {v : Value} {d : Dy} (h : Dn w v d) : Dg w v d := by
  obtain ⟨h0, nb, ao, n, ca, h1, h2⟩ := h
  obtain ⟨hb, he0, he1⟩ := nd_blen h0
  have hl : n ≤ 4096 := by
    rw [← h2.sl.len]
    exact limbs_of_blen (by omega)
  refine ⟨_, nb, ao, n, ca, _, _, h1, h2.bg (by omega), by omega, by omega, ?_⟩
  cases d with
  | none => rfl
  | some p => exact (dmk_norm h0).symm

set_option maxRecDepth 100000 in
set_option maxHeartbeats 2000000 in
theorem dnormal_any (v : Value) (d : Dy) (w : World) (h : Dg w v d) (hT : Table w) :
    Calls Tryz.prog 97 #[v] w fun e w' => ∃ r, e = .returned r ∧ Dn w' r d ∧ Ext w w' := by
  obtain ⟨bb, nb, ao, n, ca, x, f, rfl, h, hf0, hf1, hd⟩ := h
  have HD := Lib.hid hd; clear hd
  go_enter Tryz.func97, Tryz.ntmps97
  go_upto_region 1 with fail
  obtain ⟨W, hW, hB, hbx, hrx, hz⟩ := boxes_dd w bb nb ao n ca f
  rw [← hW]
  clear hW
  have h := h.below hB
  have HT := Lib.hid (hT.below hB)
  generalize hBe : w.heap.size = B at *
  have HBe := Lib.hid hBe; clear hBe hT
  have k0 := hbx.c0
  have k1 := hbx.c1
  have k2 := hbx.c2
  have k3 := hbx.c3
  cases bb with
  | true =>
    go_wp2_with fail
    refine (bad_any _).mono ?_
    rintro e w1 ⟨rfl, hw1⟩
    have c1 := hrx.below hw1
    obtain ⟨hB1, hB1'⟩ := bnext hB (by omega) hw1
    have q0 := c1.c0
    have q1 := c1.c1
    have q2 := c1.c2
    have q3 := c1.c3
    have f0 := c1.f 0
    have f1 := c1.f 1
    have f2 := c1.f 2
    have f3 := c1.f 3
    have hres := dn_stored c1 (dn_bad w1) w hB1 (Nat.le_succ B)
    have z3 := c1.stored true false none 0 0 0
    have z0 := z3.c0
    have z1 := z3.c1
    have z2 := z3.c2
    have z4 := z3.c3
    have HRES := Lib.hid hres; clear hres z3
    go_wp2
    refine bodyPost_ret (v := .agg #[.bool true, .bool false, .slice none 0 0, .int .i64 0]) (by simp [results, Tryz.results97, go_sem, z0, z1, z2, z4]) rfl ⟨_, rfl, ?_, ?_⟩
    · rw [HD.out]; exact HRES.out.1
    · show Below _ _ _; rw [HBe.out]; exact HRES.out.2
  | false =>
    go_wp2_with fail
    refine (dreduce_any _ _ _ _ _ _ _ h hf0 hf1 HT.out).mono ?_
    rintro e w1 ⟨r, rfl, hr, hw1⟩
    have c1 := hrx.below hw1
    obtain ⟨hB1, hB1'⟩ := bnext hB (by omega) hw1
    obtain ⟨_, mb, bo, m, cb, rfl, _⟩ := id hr
    generalize (dmk x f).isNone = i at *
    generalize dx (dmk x f) = j at *
    have HR := Lib.hid hr; clear hr
    clear k0 k1 k2 k3
    have q0 := c1.c0
    have q1 := c1.c1
    have q2 := c1.c2
    have q3 := c1.c3
    have f0 := c1.f 0
    have f1 := c1.f 1
    have f2 := c1.f 2
    have f3 := c1.f 3
    have hres := dn_stored c1 HR.out w hB1 (Nat.le_succ B)
    have z3 := c1.stored i mb bo m cb j
    have z0 := z3.c0
    have z1 := z3.c1
    have z2 := z3.c2
    have z4 := z3.c3
    have HRES := Lib.hid hres; clear hres z3
    go_wp2
    refine bodyPost_ret (v := .agg #[.bool i, .bool mb, .slice bo m cb, .int .i64 j]) (by simp [results, Tryz.results97, go_sem, z0, z1, z2, z4]) rfl ⟨_, rfl, ?_, ?_⟩
    · rw [HD.out]; exact HRES.out.1
    · show Below _ _ _; rw [HBe.out]; exact HRES.out.2

set_option maxRecDepth 100000 in
set_option maxHeartbeats 2000000 in
theorem dmake_any (nb : Bool) (ao : Option Addr) (n ca : Nat) (x f : Int) (w : World) (h : Bg w nb ao n ca x) (hf0 : -9223372036854775808 ≤ f) (hf1 : f ≤ 9223372036854775807) (hT : Table w) :
    Calls Tryz.prog 94 #[.agg #[.bool nb, .slice ao n ca], .int .i64 f] w fun e w' => ∃ v, e = .returned v ∧ Dn w' v (dmk x f) ∧ Ext w w' := by
  go_enter Tryz.func94, Tryz.ntmps94
  go_upto_region 1 with fail
  obtain ⟨W, hW, hB, hbx, hrx, hz⟩ := boxes_bd w nb ao n ca
  rw [← hW]
  clear hW
  have h := h.below hB
  have HT := Lib.hid (hT.below hB)
  generalize hBe : w.heap.size = B at *
  have HBe := Lib.hid hBe; clear hBe hT
  have k0 := hbx.c0
  have k1 := hbx.c1
  go_wp2_with fail
  refine (dreduce_any _ _ _ _ _ _ _ h hf0 hf1 HT.out).mono ?_
  rintro e w1 ⟨r, rfl, hr, hw1⟩
  have c1 := hrx.below hw1
  obtain ⟨hB1, hB1'⟩ := bnext hB (by omega) hw1
  obtain ⟨hnd, mb, bo, m, cb, rfl, hbn⟩ := hr
  have hbs : m ≤ 4096 := by
    rw [← hbn.sl.len]
    exact limbs_of_blen (by have := nd_blen hnd; omega)
  generalize hi : (dmk x f).isNone = i at *
  generalize hj : dx (dmk x f) = j at *
  clear k0 k1 hbx hrx
  go_upto_region 2 with fail
  obtain ⟨V, hV, hv, e1, hz2⟩ := dbox_new w1 i mb bo m cb j
  rw [← hV]
  clear hV
  have c2 := c1.below hv
  have hbn := hbn.below hv
  obtain ⟨hB2, hB2'⟩ := bnext hB1 (by omega) hv
  have hg := c1.lt
  have hw1s := hw1.size
  clear c1 hw1 hv
  generalize w1.heap.size = D at *
  have k0 := e1.c0
  have k1 := e1.c1
  have k2 := e1.c2
  have k3 := e1.c3
  go_wp2_with fail
  refine (norm_any _ _ _ _ _ _ (hbn.bg (by omega))).mono ?_
  rintro e w3 ⟨nr, ro, l, cr, rfl, hr, hw3⟩
  have c3 := c2.below hw3
  have e3 := e1.below hw3
  obtain ⟨hB3, hB3'⟩ := bnext hB2 (by omega) hw3
  clear k0 k1 k2 k3 hw3
  have k0 := e3.c0
  have k1 := e3.c1
  have k2 := e3.c2
  have k3 := e3.f 1
  have k4 := e3.f 2
  go_upto_region 3 with fail
  have ho := only_set12 w3 D (.bool nr) (.slice ro l cr)
  have e4 := e3.stored12 nr ro l cr
  have c4 := c3.only ho (by omega)
  have hr4 := hr.only_dbox e3 ho
  have hB4 := hB3.trans (ho.below (B := B) (by omega))
  have hdn : Dn _ (.agg #[.bool i, .bool nr, .slice ro l cr, .int .i64 j]) (dmk x f) := ⟨hnd, nr, ro, l, cr, by rw [hi, hj], hr4⟩
  generalize (w3.setCell ⟨D, 1, none⟩ (.bool nr)).setCell ⟨D, 2, none⟩ (.slice ro l cr) = w4 at *
  have HJ := Lib.hid hj; clear hj
  have HI := Lib.hid hi; clear hi
  clear k0 k1 k2 k3 k4 c3 e3 hr ho
  have k0 := e4.c0
  have k1 := e4.c1
  have k2 := e4.c2
  have k3 := e4.c3
  have q0 := c4.c0
  have q1 := c4.c1
  have q2 := c4.c2
  have q3 := c4.c3
  have f0 := c4.f 0
  have f1 := c4.f 1
  have f2 := c4.f 2
  have f3 := c4.f 3
  have hres := dn_stored c4 hdn w hB4 (Nat.le_succ B)
  have z3 := c4.stored i nr ro l cr j
  have z0 := z3.c0
  have z1 := z3.c1
  have z2 := z3.c2
  have z4 := z3.c3
  have HRES := Lib.hid hres; clear hres z3
  go_wp2
  refine bodyPost_ret (v := .agg #[.bool i, .bool nr, .slice ro l cr, .int .i64 j]) (by simp [results, Tryz.results94, go_sem, z0, z1, z2, z4]) rfl ⟨_, rfl, ?_, ?_⟩
  · exact HRES.out.1
  · show Below _ _ _; rw [HBe.out]; exact HRES.out.2

set_option maxRecDepth 100000 in
set_option maxHeartbeats 2000000 in
theorem dnorm_any (v : Value) (d : Dy) (w : World) (h : Dg w v d) (hT : Table w) :
    Calls Tryz.prog 152 #[v] w fun e w' => ∃ r, e = .returned r ∧ Dn w' r d ∧ Ext w w' := by
  obtain ⟨bb, nb, ao, n, ca, x, f, rfl, h, hf0, hf1, hd⟩ := h
  have HD := Lib.hid hd; clear hd
  go_enter Tryz.func152, Tryz.ntmps152
  go_upto_region 1 with fail
  obtain ⟨W, hW, hB, hbx, hrx, hz⟩ := boxes_dd w bb nb ao n ca f
  rw [← hW]
  clear hW
  have h := h.below hB
  have HT := Lib.hid (hT.below hB)
  generalize hBe : w.heap.size = B at *
  have HBe := Lib.hid hBe; clear hBe hT
  have k0 := hbx.c0
  have k1 := hbx.c1
  have k2 := hbx.c2
  have k3 := hbx.c3
  cases bb with
  | true =>
    go_wp2_with fail
    refine (bad_any _).mono ?_
    rintro e w1 ⟨rfl, hw1⟩
    have c1 := hrx.below hw1
    obtain ⟨hB1, hB1'⟩ := bnext hB (by omega) hw1
    have q0 := c1.c0
    have q1 := c1.c1
    have q2 := c1.c2
    have q3 := c1.c3
    have f0 := c1.f 0
    have f1 := c1.f 1
    have f2 := c1.f 2
    have f3 := c1.f 3
    have hres := dn_stored c1 (dn_bad w1) w hB1 (Nat.le_succ B)
    have z3 := c1.stored true false none 0 0 0
    have z0 := z3.c0
    have z1 := z3.c1
    have z2 := z3.c2
    have z4 := z3.c3
    have HRES := Lib.hid hres; clear hres z3
    go_wp2
    refine bodyPost_ret (v := .agg #[.bool true, .bool false, .slice none 0 0, .int .i64 0]) (by simp [results, Tryz.results152, go_sem, z0, z1, z2, z4]) rfl ⟨_, rfl, ?_, ?_⟩
    · rw [HD.out]; exact HRES.out.1
    · show Below _ _ _; rw [HBe.out]; exact HRES.out.2
  | false =>
    go_wp2_with fail
    refine (dmake_any _ _ _ _ _ _ _ h hf0 hf1 HT.out).mono ?_
    rintro e w1 ⟨r, rfl, hr, hw1⟩
    have c1 := hrx.below hw1
    obtain ⟨hB1, hB1'⟩ := bnext hB (by omega) hw1
    obtain ⟨_, mb, bo, m, cb, rfl, _⟩ := id hr
    generalize (dmk x f).isNone = i at *
    generalize dx (dmk x f) = j at *
    have HR := Lib.hid hr; clear hr
    clear k0 k1 k2 k3
    have q0 := c1.c0
    have q1 := c1.c1
    have q2 := c1.c2
    have q3 := c1.c3
    have f0 := c1.f 0
    have f1 := c1.f 1
    have f2 := c1.f 2
    have f3 := c1.f 3
    have hres := dn_stored c1 HR.out w hB1 (Nat.le_succ B)
    have z3 := c1.stored i mb bo m cb j
    have z0 := z3.c0
    have z1 := z3.c1
    have z2 := z3.c2
    have z4 := z3.c3
    have HRES := Lib.hid hres; clear hres z3
    go_wp2
    refine bodyPost_ret (v := .agg #[.bool i, .bool mb, .slice bo m cb, .int .i64 j]) (by simp [results, Tryz.results152, go_sem, z0, z1, z2, z4]) rfl ⟨_, rfl, ?_, ?_⟩
    · rw [HD.out]; exact HRES.out.1
    · show Below _ _ _; rw [HBe.out]; exact HRES.out.2

set_option maxRecDepth 100000 in
set_option maxHeartbeats 2000000 in
theorem dvalid_any (v : Value) (d : Dy) (w : World) (h : Dg w v d) (hT : Table w) :
    Calls Tryz.prog 96 #[v] w fun e w' => e = .returned (.bool d.isSome) ∧ Ext w w' := by
  obtain ⟨bb, nb, ao, n, ca, x, f, rfl, h'⟩ := id h
  go_enter Tryz.func96, Tryz.ntmps96
  go_upto_region 1 with fail
  obtain ⟨W, hW, hB, hbx, hz⟩ := dbox_new w bb nb ao n ca f
  rw [← hW]
  clear hW
  have hg : Dg W (.agg #[.bool bb, .bool nb, .slice ao n ca, .int .i64 f]) d := Dg.ext ⟨bb, nb, ao, n, ca, x, f, rfl, h'⟩ hB
  clear h'
  have HT := Lib.hid (hT.below hB)
  have HB := Lib.hid (show Ext w W from hB)
  clear h hB hT
  generalize w.heap.size = B at *
  have k0 := hbx.c0
  have k1 := hbx.c1
  have k2 := hbx.c2
  have k3 := hbx.c3
  have HG := Lib.hid hg
  clear hg
  go_wp2_with fail
  refine (dnormal_any _ _ _ HG.out HT.out).mono ?_
  rintro e w1 ⟨r, rfl, hr, hw1⟩
  obtain ⟨_, mb, bo, m, cb, rfl, _⟩ := id hr
  have hi : (!d.isNone) = d.isSome := by cases d <;> rfl
  generalize d.isNone = i at *
  have HI := Lib.hid hi; clear hi hr
  have hfd : ∀ w : World, (Instr.field 39 (.agg #[.bool i, .bool mb, .slice bo m cb, .int .i64 (dx d)]) 0).run Tryz.prog w = .ok (.bool i) w := fun _ => by kernel_rfl
  go_wp2
  go_ret
  exact ⟨by show Ending.returned (.bool (!i)) = _; rw [HI.out], HB.out.trans hw1⟩

set_option maxRecDepth 100000 in
set_option maxHeartbeats 2000000 in
theorem dfromInt_any (f : Int) (w : World) (hf0 : -9223372036854775808 ≤ f) (hf1 : f ≤ 9223372036854775807) (hT : Table w) :
    Calls Tryz.prog 85 #[.int .i64 f] w fun e w' => ∃ r, e = .returned r ∧ Dn w' r (dmk f 0) ∧ Ext w w' := by
  go_enter Tryz.func85, Tryz.ntmps85
  go_upto_region 1 with fail
  obtain ⟨W, hW, hB, hrx, hz⟩ := dbox_new w false false none 0 0 0
  rw [← hW]
  clear hW
  have HT := Lib.hid (hT.below hB)
  generalize hBe : w.heap.size = B at *
  have HBe := Lib.hid hBe; clear hBe hT
  go_wp2_with fail
  refine (fromInt_any _ _ hf0 hf1).mono ?_
  rintro e w1 ⟨nr, ro, l, cr, rfl, hr, hw1⟩
  have hl : l ≤ 2 := by
    rw [← hr.sl.len]
    exact (limbs_len_le _ 2).2 (show f.natAbs < 4294967296 ^ 2 by omega)
  have c1 := hrx.below hw1
  have HT := Lib.hid (HT.out.below hw1)
  obtain ⟨hB1, hB1'⟩ := bnext hB (by omega) hw1
  go_wp2_with fail
  refine (dreduce_any _ _ _ _ _ _ _ (hr.bg (by omega)) (by omega) (by omega) HT.out).mono ?_
  rintro e w2 ⟨r, rfl, hr2, hw2⟩
  have c2 := c1.below hw2
  obtain ⟨hB2, hB2'⟩ := bnext hB1 hB1' hw2
  obtain ⟨_, mb, bo, m, cb, rfl, _⟩ := id hr2
  have HR := Lib.hid hr2; clear hr2
  generalize (dmk f 0).isNone = i at *
  generalize dx (dmk f 0) = j at *
  have q0 := c2.c0
  have q1 := c2.c1
  have q2 := c2.c2
  have q3 := c2.c3
  have f0 := c2.f 0
  have f1 := c2.f 1
  have f2 := c2.f 2
  have f3 := c2.f 3
  have hres := dn_stored c2 HR.out w hB2 (Nat.le_refl B)
  have z3 := c2.stored i mb bo m cb j
  have z0 := z3.c0
  have z1 := z3.c1
  have z2 := z3.c2
  have z4 := z3.c3
  have HRES := Lib.hid hres; clear hres z3
  go_wp2
  refine bodyPost_ret (v := .agg #[.bool i, .bool mb, .slice bo m cb, .int .i64 j]) (by simp [results, Tryz.results85, go_sem, z0, z1, z2, z4]) rfl ⟨_, rfl, ?_, ?_⟩
  · exact HRES.out.1
  · show Below _ _ _; rw [HBe.out]; exact HRES.out.2

end Go.Proofs.YtjohpdobnedilaaGreatDoor
