import Derived.Test.YtapcecjbmcoliaaGreatDoorACauU20
import Derived.Test.YtapcecjbmcoliaaGreatDoorACauU18
import Derived.Test.YtapcecjbmcoliaaGreatDoorACauU19
import Derived.WalkKit
import Derived.WalkSmall
import Derived.Lib.Hide
import Derived.Deep.RegionHeld3
import Derived.Deep.CutRange
namespace Go.Proofs.YtapcecjbmcoliaaGreatDoor
open Go.RowKit

/-- block g holds a dyad with these parts, in a block of the call's own -/
def DBox (W : World) (g : Nat) (bb nb : Bool) (ao : Option Addr) (n ca : Nat) (e : Int) : Prop := W.heap[g]? = some (.cells #[.bool bb, .bool nb, .slice ao n ca, .int .i64 e] 29 (0, 0))

section
variable {W w w' : World} {g : Nat} {bb nb : Bool} {ao : Option Addr} {n ca : Nat} {e : Int}
theorem DBox.c0 (h : DBox W g bb nb ao n ca e) : W.cell? ⟨g, 0, none⟩ = some (.bool bb) := by rw [cell_of_row W g 0 _ _ _ h]; rfl
theorem DBox.c1 (h : DBox W g bb nb ao n ca e) : W.cell? ⟨g, 1, none⟩ = some (.bool nb) := by rw [cell_of_row W g 1 _ _ _ h]; rfl
theorem DBox.c2 (h : DBox W g bb nb ao n ca e) : W.cell? ⟨g, 2, none⟩ = some (.slice ao n ca) := by rw [cell_of_row W g 2 _ _ _ h]; rfl
theorem DBox.c3 (h : DBox W g bb nb ao n ca e) : W.cell? ⟨g, 3, none⟩ = some (.int .i64 e) := by rw [cell_of_row W g 3 _ _ _ h]; rfl
theorem DBox.f (h : DBox W g bb nb ao n ca e) (o : Nat) : W.frozen? ⟨g, o, none⟩ = false := by
  unfold DBox at h; simp [World.frozen?, h]
theorem DBox.lt (h : DBox w g bb nb ao n ca e) : g < w.heap.size := lt_of_cell h.c0
theorem DBox.kept {B : Nat} (h : DBox w g bb nb ao n ca e) (hb : Below B w w') (hg : g < B) : DBox w' g bb nb ao n ca e := by
  unfold DBox; rw [hb.block g hg]; exact h
theorem DBox.below (h : DBox w g bb nb ao n ca e) (hb : Below w.heap.size w w') : DBox w' g bb nb ao n ca e := h.kept hb h.lt
theorem DBox.ext (h : DBox w g bb nb ao n ca e) (hb : Ext w w') : DBox w' g bb nb ao n ca e := h.below hb
theorem DBox.only {k : Nat} (h : DBox w g bb nb ao n ca e) (ho : Only k w w') (hne : g ≠ k) : DBox w' g bb nb ao n ca e := by
  unfold DBox; rw [ho.block g hne]; exact h
end

theorem DBox.new (w : World) (bb nb : Bool) (ao : Option Addr) (n ca : Nat) (e : Int) : DBox (w.alloc (.cells #[.bool bb, .bool nb, .slice ao n ca, .int .i64 e] 29)) w.heap.size bb nb ao n ca e := heap_alloc_new w _

theorem DBox.stored {w : World} {g : Nat} {bb nb : Bool} {ao : Option Addr} {n ca : Nat} {e : Int} (h : DBox w g bb nb ao n ca e) (mbb mb : Bool) (bo : Option Addr) (m cb : Nat) (f : Int) :
    DBox ((((w.setCell ⟨g, 0, none⟩ (.bool mbb)).setCell ⟨g, 1, none⟩ (.bool mb)).setCell ⟨g, 2, none⟩ (.slice bo m cb)).setCell ⟨g, 3, none⟩ (.int .i64 f)) g mbb mb bo m cb f := by
  unfold DBox at h ⊢
  simp [World.setCell, Array.getElem?_modify, h]
theorem DBox.stored12 {w : World} {g : Nat} {bb nb : Bool} {ao : Option Addr} {n ca : Nat} {e : Int} (h : DBox w g bb nb ao n ca e) (mb : Bool) (bo : Option Addr) (m cb : Nat) :
    DBox ((w.setCell ⟨g, 1, none⟩ (.bool mb)).setCell ⟨g, 2, none⟩ (.slice bo m cb)) g bb mb bo m cb e := by
  unfold DBox at h ⊢
  simp [World.setCell, Array.getElem?_modify, h]
theorem DBox.stored1 {w : World} {g : Nat} {bb nb : Bool} {ao : Option Addr} {n ca : Nat} {e : Int} (h : DBox w g bb nb ao n ca e) (mb : Bool) :
    DBox (w.setCell ⟨g, 1, none⟩ (.bool mb)) g bb mb ao n ca e := by
  unfold DBox at h ⊢
  simp [World.setCell, Array.getElem?_modify, h]
theorem only_set4 (w : World) (g : Nat) (u v x y : Value) : Only g w ((((w.setCell ⟨g, 0, none⟩ u).setCell ⟨g, 1, none⟩ v).setCell ⟨g, 2, none⟩ x).setCell ⟨g, 3, none⟩ y) := ((((Only.refl g w).setCell _ _).setCell _ _).setCell _ _).setCell _ _
theorem only_set12 (w : World) (g : Nat) (u v : Value) : Only g w ((w.setCell ⟨g, 1, none⟩ u).setCell ⟨g, 2, none⟩ v) := ((Only.refl g w).setCell _ _).setCell _ _

/-- limbs do not lie in a dyad's block -/
theorem At.only_dbox {w w' : World} {g : Nat} {bb nb : Bool} {ao ro : Option Addr} {n cap : Nat} {f : Int} {zs : List Int} (hx : DBox w g bb nb ao n cap f) (h : At w ro zs) (ho : Only g w w') : At w' ro zs := by
  intro h0
  obtain ⟨b, off, e, hc⟩ := h h0
  refine ⟨b, off, e, fun j hj => ?_⟩
  have hne : b ≠ g := by
    rintro rfl
    have := hc j hj
    rw [cell_of_row w b (off + j) _ _ _ hx] at this
    match off + j, this with
    | 0, this => simp at this
    | 1, this => simp at this
    | 2, this => simp at this
    | 3, this => simp at this
    | k + 4, this => simp at this
  rw [World.cell?_of_block (w := w) (ho.block b hne)]
  exact hc j hj
theorem Sl.only_dbox {w w' : World} {g : Nat} {bb nb : Bool} {ao ro : Option Addr} {n cap k cr : Nat} {f : Int} {zs : List Int} (h : Sl w ro k cr zs) (hx : DBox w g bb nb ao n cap f) (ho : Only g w w') : Sl w' ro k cr zs :=
  ⟨h.len, h.cap, h.big, h.wf, h.cells.only_dbox hx ho⟩
theorem Bn.only_dbox {w w' : World} {g : Nat} {bb nb mb : Bool} {ao ro : Option Addr} {n cap k cr : Nat} {f x : Int} (h : Bn w mb ro k cr x) (hx : DBox w g bb nb ao n cap f) (ho : Only g w w') : Bn w' mb ro k cr x :=
  ⟨h.neg, h.sl.only_dbox hx ho⟩
theorem Bg.only_dbox {w w' : World} {g : Nat} {bb nb mb : Bool} {ao ro : Option Addr} {n cap k cr : Nat} {f x : Int} (h : Bg w mb ro k cr x) (hx : DBox w g bb nb ao n cap f) (ho : Only g w w') : Bg w' mb ro k cr x := by
  obtain ⟨⟨zs, h1, h2⟩, h3⟩ := h
  exact ⟨⟨zs, h1.only_dbox hx ho, h2⟩, h3⟩

theorem dbox_new (w : World) (bb nb : Bool) (ao : Option Addr) (n ca : Nat) (e : Int) :
    ∃ W, W = w.alloc (.cells #[.bool bb, .bool nb, .slice ao n ca, .int .i64 e] 29) ∧ Below w.heap.size w W ∧ DBox W w.heap.size bb nb ao n ca e ∧ w.heap.size + 1 ≤ W.heap.size :=
  ⟨_, rfl, (Below.refl _ w).alloc (Nat.le_refl _) _, DBox.new w bb nb ao n ca e, by simp⟩

/-- an integer boxed, and the place of a dyad -/
theorem boxes_bd (w : World) (nb : Bool) (ao : Option Addr) (n cap : Nat) :
    ∃ W, W = (w.alloc (.cells #[.bool nb, .slice ao n cap] 27)).alloc (.cells #[.bool false, .bool false, .slice none 0 0, .int .i64 0] 29) ∧ Below w.heap.size w W ∧ Box W w.heap.size nb ao n cap ∧ DBox W (w.heap.size + 1) false false none 0 0 0 ∧ w.heap.size + 2 ≤ W.heap.size := by
  refine ⟨_, rfl, ((Below.refl _ w).alloc (Nat.le_refl _) _).alloc (by simp) _, ?_, ?_, by simp⟩
  · exact (Box.new w nb ao n cap).below ((Below.refl _ _).alloc (Nat.le_refl _) _)
  · have := DBox.new (w.alloc (.cells #[.bool nb, .slice ao n cap] 27)) false false none 0 0 0
    simpa using this

/-- a dyad boxed, and the place of a dyad -/
theorem boxes_dd (w : World) (bb nb : Bool) (ao : Option Addr) (n cap : Nat) (e : Int) :
    ∃ W, W = (w.alloc (.cells #[.bool bb, .bool nb, .slice ao n cap, .int .i64 e] 29)).alloc (.cells #[.bool false, .bool false, .slice none 0 0, .int .i64 0] 29) ∧ Below w.heap.size w W ∧ DBox W w.heap.size bb nb ao n cap e ∧ DBox W (w.heap.size + 1) false false none 0 0 0 ∧ w.heap.size + 2 ≤ W.heap.size := by
  refine ⟨_, rfl, ((Below.refl _ w).alloc (Nat.le_refl _) _).alloc (by simp) _, ?_, ?_, by simp⟩
  · exact (DBox.new w bb nb ao n cap e).below ((Below.refl _ _).alloc (Nat.le_refl _) _)
  · have := DBox.new (w.alloc (.cells #[.bool bb, .bool nb, .slice ao n cap, .int .i64 e] 29)) false false none 0 0 0
    simpa using this

/-- two dyads boxed, and the place of a dyad -/
theorem boxes_ddd (w : World) (bb nb : Bool) (ao : Option Addr) (n cap : Nat) (e : Int) (cb mb : Bool) (bo : Option Addr) (m cap' : Nat) (f : Int) :
    ∃ W, W = ((w.alloc (.cells #[.bool bb, .bool nb, .slice ao n cap, .int .i64 e] 29)).alloc (.cells #[.bool cb, .bool mb, .slice bo m cap', .int .i64 f] 29)).alloc (.cells #[.bool false, .bool false, .slice none 0 0, .int .i64 0] 29) ∧ Below w.heap.size w W ∧
      DBox W w.heap.size bb nb ao n cap e ∧ DBox W (w.heap.size + 1) cb mb bo m cap' f ∧ DBox W (w.heap.size + 1 + 1) false false none 0 0 0 ∧ w.heap.size + 3 ≤ W.heap.size := by
  refine ⟨_, rfl, (((Below.refl _ w).alloc (Nat.le_refl _) _).alloc (by simp) _).alloc (by simp; omega) _, ?_, ?_, ?_, by simp⟩
  · exact (DBox.new w bb nb ao n cap e).below (((Below.refl _ _).alloc (Nat.le_refl _) _).alloc (by simp) _)
  · have := (DBox.new (w.alloc (.cells #[.bool bb, .bool nb, .slice ao n cap, .int .i64 e] 29)) cb mb bo m cap' f).below ((Below.refl _ _).alloc (Nat.le_refl _) (.cells #[.bool false, .bool false, .slice none 0 0, .int .i64 0] 29))
    simpa using this
  · have := DBox.new ((w.alloc (.cells #[.bool bb, .bool nb, .slice ao n cap, .int .i64 e] 29)).alloc (.cells #[.bool cb, .bool mb, .slice bo m cap', .int .i64 f] 29)) false false none 0 0 0
    simpa using this

/-- the parts of a dyad: zeros for none -/
def dm (d : Dy) : Int := (d.getD (0, 0)).1
def dx (d : Dy) : Int := (d.getD (0, 0)).2

/-- the value v is the normalized dyad d -/
def Dn (w : World) (v : Value) (d : Dy) : Prop := Nd d ∧ ∃ nb ao n ca, v = .agg #[.bool d.isNone, .bool nb, .slice ao n ca, .int .i64 (dx d)] ∧ Bn w nb ao n ca (dm d)

set_option maxRecDepth 100000 in
set_option maxHeartbeats 1000000 in
theorem bad_any (w : World) :
    Calls Tryz.prog 27 #[] w fun e w' => e = .returned (.agg #[.bool true, .bool false, .slice none 0 0, .int .i64 0]) ∧ Ext w w' := by
  go_enter Tryz.func27, Tryz.ntmps27
  go_wp2
  exact bodyPost_ret (v := .agg #[.bool true, .bool false, .slice none 0 0, .int .i64 0]) (by simp [results, Tryz.results27, go_sem]) rfl ⟨rfl, ((Below.refl _ _).alloc (Nat.le_refl _) _)⟩

/-- a shift down by any number of bits, none included -/
theorem shift_down0 (nb : Bool) (ao : Option Addr) (n cap : Nat) (x : Int) (k : Nat) (w : World) (h : Bg w nb ao n cap x) (hk : k ≤ 1048576) (hT : Table w) :
    Calls Tryz.prog 49 #[.agg #[.bool nb, .slice ao n cap], .int .i64 (-(k : Int))] w fun e w' => ∃ nr ro l cr, e = .returned (.tuple #[.agg #[.bool nr, .slice ro l cr], .int .i64 0]) ∧ Bn w' nr ro l cr (x / 2 ^ k) ∧ Below w.heap.size w w' := by
  rcases Nat.eq_zero_or_pos k with rfl | hk0
  · have := shift_left nb ao n cap x 0 w h (by omega)
    simpa using this
  · exact shift_right nb ao n cap x k w h hk hk0 hT

theorem drop_sl {w : World} {b off n ca s : Nat} {zs : List Int} (ha : Sl w (some ⟨b, off, none⟩) n ca zs) (hs : s ≤ n) : Sl w (some ⟨b, off + s, none⟩) (n - s) (ca - s) (zs.drop s) :=
  ⟨by rw [List.length_drop, ha.len], by have := ha.cap; omega, by have := ha.big; omega, ha.wf.drop s, fun h0 => by
    rw [List.length_drop, ha.len] at h0
    obtain ⟨b', off', e, hc⟩ := ha.cells (by rw [ha.len]; omega)
    cases e
    refine ⟨b, off + s, rfl, fun j hj => ?_⟩
    rw [List.length_drop, ha.len] at hj
    have := hc (s + j) (by rw [ha.len]; omega)
    rw [show off + s + j = off + (s + j) by omega, this]
    simp [List.getD, List.getElem?_drop]⟩

theorem cast3 (c s k m : Nat) : ((c ^ s * 2 ^ k * (2 * m + 1) : Nat) : Int) = (c : Int) ^ s * (2 ^ k * (2 * (m : Int) + 1)) := by push_cast; rw [Int.mul_assoc]
theorem cast2 (c s k : Nat) : ((c ^ s * 2 ^ k : Nat) : Int) = (c : Int) ^ s * 2 ^ k := by push_cast; rfl
/-- whole limbs of zeros dropped -/
theorem drop_val {nb : Bool} {zs : List Int} {x : Int} {t s k : Nat} (hz : Wf zs) (hx : x = sgd nb zs) (h0 : x ≠ 0) (ht : IsTz x.natAbs t) (hsk : t = s * 32 + k) :
    s < zs.length ∧ sgd nb (zs.drop s) / 2 ^ k = x / 2 ^ t := by
  have ha := sgd_natAbs (nb := nb) hz
  rw [← hx] at ha
  have hn := num_nonneg hz
  have hlt := num_lt hz
  obtain ⟨_, m, hm⟩ : x.natAbs ≠ 0 ∧ ∃ m, x.natAbs = 2 ^ t * (2 * m + 1) := by
    rcases ht with ⟨h, _⟩ | h
    · omega
    · exact h
  have hp : (2 : Nat) ^ t = 4294967296 ^ s * 2 ^ k := by rw [hsk, pow32]
  have hs : s < zs.length := by
    by_cases hs : s < zs.length
    · exact hs
    · exfalso
      have h1 : (4294967296 : Nat) ^ zs.length ≤ 4294967296 ^ s := Nat.pow_le_pow_right (by omega) (by omega)
      have h2 : x.natAbs < 4294967296 ^ zs.length := by
        rw [ha]
        have h3 : ((num zs).toNat : Int) < ((4294967296 ^ zs.length : Nat) : Int) := by rw [Int.toNat_of_nonneg hn, Int.natCast_pow]; exact hlt
        exact Int.ofNat_lt.1 h3
      have h4 : 4294967296 ^ s * 1 ≤ 4294967296 ^ s * (2 ^ k * (2 * m + 1)) := Nat.mul_le_mul_left _ (Nat.mul_pos (Nat.pos_of_ne_zero (by simp)) (by omega))
      rw [hm, hp, Nat.mul_assoc] at h2
      omega
  refine ⟨hs, ?_⟩
  have hd := num_drop_div hz s (by omega)
  have hb : num zs = 4294967296 ^ s * (2 ^ k * (2 * (m : Int) + 1)) := by
    have h5 : num zs = ((num zs).toNat : Int) := (Int.toNat_of_nonneg hn).symm
    rw [h5, ← ha, hm, hp]
    exact cast3 4294967296 s k m
  have hp0 := pow_pos' s
  rw [hb, Int.mul_ediv_cancel_left _ (by omega)] at hd
  have hpi : (2 : Int) ^ t = 4294967296 ^ s * 2 ^ k := by
    have h6 : (2 : Int) ^ t = ((2 ^ t : Nat) : Int) := by rw [Int.natCast_pow]; rfl
    rw [h6, hp]
    exact cast2 4294967296 s k
  have hk0 := two_pos k
  unfold sgd at hx ⊢
  cases nb with
  | false =>
    simp only [Bool.false_eq_true, if_false] at hx ⊢
    rw [hx, hb, hd, hpi, Int.mul_ediv_mul_of_pos _ _ hp0]
  | true =>
    simp only [if_true] at hx ⊢
    rw [hx, hb, hd, hpi, ← Int.mul_neg (4294967296 ^ s), Int.mul_ediv_mul_of_pos _ _ hp0]

theorem bn_self {w : World} {nb : Bool} {ao : Option Addr} {n ca : Nat} {zs : List Int} {x : Int} (hs : Sl w ao n ca zs) (hx : x = sgd nb zs) (h0 : x ≠ 0) (hl : zs.getD (n - 1) 0 ≠ 0) : Bn w nb ao n ca x := by
  have ha := sgd_natAbs (nb := nb) hs.wf
  rw [← hx] at ha
  have hn := num_nonneg hs.wf
  have e : limbs x.natAbs = zs := by
    rw [ha, limbs_num hs.wf]
    intro m hm
    have := hs.len
    rwa [show n - 1 = m by omega] at hl
  refine ⟨?_, by rw [e]; exact hs⟩
  unfold sgd at hx
  cases nb <;> simp at hx <;> simp <;> omega

set_option maxRecDepth 100000 in
set_option maxHeartbeats 2000000 in
theorem oddPart_any (nb : Bool) (ao : Option Addr) (n ca : Nat) (x : Int) (t : Nat) (w : World) (h : Bg w nb ao n ca x) (h0 : x ≠ 0) (ht : IsTz x.natAbs t) (hT : Table w) :
    Calls Tryz.prog 52 #[.agg #[.bool nb, .slice ao n ca], .int .i64 (t : Int)] w fun e w' => ∃ nr ro k cr, e = .returned (.agg #[.bool nr, .slice ro k cr]) ∧ Bn w' nr ro k cr (x / 2 ^ t) ∧ Ext w w' := by
  obtain ⟨⟨zs, hs, hx⟩, hsm⟩ := h
  obtain ⟨hsn, hval⟩ := drop_val (s := t / 32) (k := t % 32) hs.wf hx h0 ht (by omega)
  rw [hs.len] at hsn
  have HX := Lib.hid hx; clear hx
  have HV := Lib.hid hval; clear hval
  have H0 := Lib.hid h0; clear h0
  go_enter Tryz.func52, Tryz.ntmps52
  go_upto_region 1 with fail
  obtain ⟨W, hW, hB, hbx, hrx, hz⟩ := boxes1 w nb ao n ca
  rw [← hW]
  clear hW
  have hs := hs.below hB
  have HT := Lib.hid hT
  generalize hBe : w.heap.size = B at *
  have HBe := Lib.hid hBe; clear hBe
  have hself := bn_self hs HX.out H0.out
  obtain ⟨bb, ob, rfl, hcb⟩ := hs.cells (by rw [hs.len]; omega)
  have hlast := hcb (n - 1) (by rw [hs.len]; omega)
  have hlen := hs.len
  have hcap := hs.cap
  have hlr := hs.wf.getD (n - 1)
  obtain ⟨l, hl⟩ : ∃ l, zs.getD (n - 1) 0 = l := ⟨_, rfl⟩
  rw [hl] at hlast hlr hself
  have HL := Lib.hid hl; clear hl
  have HLEN := Lib.hid hlen; clear hlen
  have k0 := hbx.c0
  have k1 := hbx.c1
  have k2 := hbx.f 1
  have hsub := drop_sl hs (Nat.le_of_lt hsn)
  clear hcb ht hT
  have q0 := hrx.c0
  have q1 := hrx.c1
  have q2 := hrx.f 0
  have q3 := hrx.f 1
  by_cases hcase : t = 0 ∧ l ≠ 0
  · obtain ⟨rfl, hl0⟩ := hcase
    have hl1 : (l != 0) = true := by simpa using hl0
    have hself := hself hl0
    have z3 := hrx.stored nb (some ⟨bb, ob, none⟩) n ca
    have z0 := z3.c0
    have z1 := z3.c1
    have hres : Bn ((W.setCell ⟨B + 1, 0, none⟩ (.bool nb)).setCell ⟨B + 1, 1, none⟩ (.slice (some ⟨bb, ob, none⟩) n ca)) nb (some ⟨bb, ob, none⟩) n ca x := ⟨hself.neg, hself.sl.only_box hrx (only_set2 _ _ _ _)⟩
    have HRES := Lib.hid hres; clear hres hself hsub z3
    go_wp2
    refine bodyPost_ret (v := .agg #[.bool nb, .slice (some ⟨bb, ob, none⟩) n ca]) (by simp [results, Tryz.results52, go_sem, z0, z1]) rfl ⟨nb, _, n, ca, rfl, ?_, ?_⟩
    · simpa using HRES.out
    · show Below _ _ _; rw [HBe.out]; exact hB.trans ((only_set2 _ _ _ _).below (by omega))
  · clear hself
    obtain ⟨tx, htx⟩ : ∃ tx : Int, (t : Int) = tx := ⟨_, rfl⟩
    have hd : tx / 32 = ((t / 32 : Nat) : Int) := by omega
    have hr : tx % 32 = ((t % 32 : Nat) : Int) := by omega
    have hk : t % 32 ≤ 1048576 := by omega
    rw [htx]
    have hx0 : 0 ≤ tx := by omega
    have hx1 : tx ≤ 100000000000 := by omega
    have htl : (tx == 0) = false ∨ ((tx == 0) = true ∧ (l != 0) = false) := by
      by_cases h1 : t = 0
      · right; constructor
        · simp; omega
        · have : ¬ l ≠ 0 := fun h2 => hcase ⟨h1, h2⟩
          simpa using this
      · left; simp; omega
    generalize t / 32 = sk at *
    generalize t % 32 = k at *
    have HTX := Lib.hid htx; clear htx hcase
    have ho := only_set1 W B 1 (.slice (some ⟨bb, ob + sk, none⟩) (n - sk) (ca - sk))
    have hs1 := hsub.only_box hbx ho
    have hbg : Bg (W.setCell ⟨B, 1, none⟩ (.slice (some ⟨bb, ob + sk, none⟩) (n - sk) (ca - sk))) nb (some ⟨bb, ob + sk, none⟩) (n - sk) (ca - sk) (sgd nb (zs.drop sk)) := ⟨⟨_, hs1, rfl⟩, by omega⟩
    have hB1 := hB.trans (ho.below (Nat.le_refl B))
    have hT1 := HT.out.below (by rw [HBe.out]; exact hB1)
    have b1 := hrx.only ho (by omega)
    have bx : Box (W.setCell ⟨B, 1, none⟩ (.slice (some ⟨bb, ob + sk, none⟩) (n - sk) (ca - sk))) B nb (some ⟨bb, ob + sk, none⟩) (n - sk) (ca - sk) := by
      have := hbx
      unfold Box at this ⊢
      simp [World.setCell, Array.getElem?_modify, this]
    have hz1 : B + 2 ≤ (W.setCell ⟨B, 1, none⟩ (.slice (some ⟨bb, ob + sk, none⟩) (n - sk) (ca - sk))).heap.size := by rw [ho.size]; exact hz
    have HBG := Lib.hid hbg; clear hbg
    have HT1 := Lib.hid hT1; clear hT1
    have HB1 := Lib.hid hB1; clear hB1
    clear ho hs1 hsub hs
    rcases htl with htl | ⟨htl, hl1⟩
    all_goals
      go_wp2_with fail
      refine (shift_down0 _ _ _ _ _ _ _ HBG.out hk HT1.out).mono ?_
      rintro e w2 ⟨nr, ro, l2, cr, rfl, hr2, hw2⟩
      have b2 := b1.below hw2
      have hB2 := bnext HB1.out (by omega) hw2
      rw [HV.out] at hr2
      clear hlast k0 k1 k2 q0 q1 q2 q3 bx b1 hd hr
      go_upto_region 5 with fail
      obtain ⟨V, hV, hv, c1, hz2⟩ := box_new w2 nr ro l2 cr
      rw [← hV]
      clear hV
      have b3 := b2.below hv
      have hr3 := hr2.below hv
      obtain ⟨hB3, hB3'⟩ := bnext hB2.1 hB2.2 hv
      have k0 := c1.c0
      have k1 := c1.c1
      have q2 := b3.f 0
      have q3 := b3.f 1
      have q0 := b3.c0
      have q1 := b3.c1
      have z3 := b3.stored nr ro l2 cr
      have z0 := z3.c0
      have z1 := z3.c1
      have hres : Bn ((V.setCell ⟨B + 1, 0, none⟩ (.bool nr)).setCell ⟨B + 1, 1, none⟩ (.slice ro l2 cr)) nr ro l2 cr (x / 2 ^ t) := ⟨hr3.neg, hr3.sl.only_box b3 (only_set2 _ _ _ _)⟩
      have HRES := Lib.hid hres; clear hres
      go_wp2
      refine bodyPost_ret (v := .agg #[.bool nr, .slice ro l2 cr]) (by simp [results, Tryz.results52, go_sem, z0, z1]) rfl ⟨nr, _, l2, cr, rfl, HRES.out, ?_⟩
      show Below _ _ _; rw [HBe.out]; exact hB3.trans ((only_set2 _ _ _ _).below (by omega))

theorem bg_blen {w : World} {nb : Bool} {ao : Option Addr} {n ca : Nat} {x : Int} (h : Bg w nb ao n ca x) : blen x.natAbs ≤ 32 * n := by
  obtain ⟨⟨zs, hs, hx⟩, _⟩ := h
  refine blen_limbs ?_
  rw [hx, sgd_natAbs hs.wf]
  have h1 := num_lt hs.wf
  have h2 := num_nonneg hs.wf
  rw [hs.len] at h1
  have h3 : ((num zs).toNat : Int) < ((4294967296 ^ n : Nat) : Int) := by rw [Int.toNat_of_nonneg h2, Int.natCast_pow]; exact h1
  exact Int.ofNat_lt.1 h3

theorem tzf_lt {a : Nat} (h : a ≠ 0) : tzf a < blen a := by
  rcases tzf_isTz a with ⟨h0, _⟩ | ⟨_, m, hm⟩
  · exact absurd h0 h
  · obtain ⟨l, h1, h2, h3⟩ := blen_spec h
    rw [h1]
    have h4 : 2 ^ tzf a * 1 ≤ 2 ^ tzf a * (2 * m + 1) := Nat.mul_le_mul_left _ (by omega)
    rw [← hm] at h4
    have : 2 ^ tzf a < 2 ^ (l + 1) := by omega
    exact (Nat.pow_lt_pow_iff_right (by omega)).1 this

theorem dn_bad (w : World) : Dn w (.agg #[.bool true, .bool false, .slice none 0 0, .int .i64 0]) none :=
  ⟨trivial, false, none, 0, 0, rfl, ⟨rfl, by simp [dm, limbs_zero]; exact Sl.nil w⟩⟩
theorem dn_zero (w : World) : Dn w (.agg #[.bool false, .bool false, .slice none 0 0, .int .i64 0]) (some (0, 0)) :=
  ⟨Or.inl ⟨rfl, rfl⟩, false, none, 0, 0, rfl, ⟨rfl, by simp [dm, limbs_zero]; exact Sl.nil w⟩⟩
theorem Dn.ext {w w' : World} {v : Value} {d : Dy} (h : Dn w v d) (he : Ext w w') : Dn w' v d := by
  obtain ⟨h0, nb, ao, n, ca, h1, h2⟩ := h
  exact ⟨h0, nb, ao, n, ca, h1, h2.below he⟩
theorem Dn.only_dbox {w w' : World} {g : Nat} {bb nb : Bool} {ao : Option Addr} {n cap : Nat} {f : Int} {v : Value} {d : Dy} (h : Dn w v d) (hx : DBox w g bb nb ao n cap f) (ho : Only g w w') : Dn w' v d := by
  obtain ⟨h0, nb, ao, n, ca, h1, h2⟩ := h
  exact ⟨h0, nb, ao, n, ca, h1, h2.only_dbox hx ho⟩

/-- the ends of a dyad's function: the result lies in its place -/
theorem dn_stored {w : World} {g B : Nat} {bb nb mbb mb : Bool} {ao bo : Option Addr} {n ca m cb : Nat} {e f : Int} {d : Dy} (hx : DBox w g bb nb ao n ca e) (h : Dn w (.agg #[.bool mbb, .bool mb, .slice bo m cb, .int .i64 f]) d) (w0 : World) (hb : Below B w0 w) (hg : B ≤ g) :
    Dn ((((w.setCell ⟨g, 0, none⟩ (.bool mbb)).setCell ⟨g, 1, none⟩ (.bool mb)).setCell ⟨g, 2, none⟩ (.slice bo m cb)).setCell ⟨g, 3, none⟩ (.int .i64 f)) (.agg #[.bool mbb, .bool mb, .slice bo m cb, .int .i64 f]) d ∧
    Below B w0 ((((w.setCell ⟨g, 0, none⟩ (.bool mbb)).setCell ⟨g, 1, none⟩ (.bool mb)).setCell ⟨g, 2, none⟩ (.slice bo m cb)).setCell ⟨g, 3, none⟩ (.int .i64 f)) :=
  ⟨h.only_dbox hx (only_set4 _ _ _ _ _ _), hb.trans ((only_set4 _ _ _ _ _ _).below hg)⟩

set_option maxRecDepth 100000 in
set_option maxHeartbeats 2000000 in
theorem dreduce_any (nb : Bool) (ao : Option Addr) (n ca : Nat) (x f : Int) (w : World) (h : Bg w nb ao n ca x) (hf0 : -9223372036854775808 ≤ f) (hf1 : f ≤ 9223372036854775807) (hT : Table w) :
    Calls Tryz.prog 28 #[.agg #[.bool nb, .slice ao n ca], .int .i64 f] w fun e w' => ∃ v, e = .returned v ∧ Dn w' v (dmk x f) ∧ Ext w w' := by
  have hbl := bg_blen h
  have hsm := h.small
  have hnd := dmk_nd x f
  go_enter Tryz.func28, Tryz.ntmps28
  go_upto_region 1 with fail
  obtain ⟨W, hW, hB, hbx, hrx, hz⟩ := boxes_bd w nb ao n ca
  rw [← hW]
  clear hW
  have h := h.below hB
  have HT := Lib.hid (hT.below hB)
  generalize hBe : w.heap.size = B at *
  have HBe := Lib.hid hBe; clear hBe hT
  have k0 := hbx.c0
  have k1 := hbx.c1
  go_wp2_with fail
  refine (sign_any _ _ _ _ _ _ h).mono ?_
  rintro e w1 ⟨rfl, hw1⟩
  have h := h.below hw1
  have b1 := hbx.below hw1
  have c1 := hrx.below hw1
  have HT := Lib.hid (HT.out.below hw1)
  obtain ⟨hB1, hB1'⟩ := bnext hB (by omega) hw1
  have hz1 := hw1.size
  clear k0 k1 hbx hrx hB hw1
  by_cases h0 : x = 0
  · have hs0 : sgn3 x 0 = 0 := by simp [sgn3, h0]
    rw [hs0]
    have H0 := Lib.hid h0; clear h0
    have q0 := c1.c0
    have q1 := c1.c1
    have q2 := c1.c2
    have q3 := c1.c3
    have f0 := c1.f 0
    have f1 := c1.f 1
    have f2 := c1.f 2
    have f3 := c1.f 3
    have hres := dn_stored c1 (dn_zero w1) w hB1 (Nat.le_succ B)
    have z3 := c1.stored false false none 0 0 0
    have z0 := z3.c0
    have z1 := z3.c1
    have z2 := z3.c2
    have z4 := z3.c3
    have HRES := Lib.hid hres; clear hres z3
    go_wp2
    refine bodyPost_ret (v := .agg #[.bool false, .bool false, .slice none 0 0, .int .i64 0]) (by simp [results, Tryz.results28, go_sem, z0, z1, z2, z4]) rfl ⟨_, rfl, ?_, ?_⟩
    · rw [H0.out, dmk_zero]; exact HRES.out.1
    · show Below _ _ _; rw [HBe.out]; exact HRES.out.2
  · have hs0 : (sgn3 x 0 == 0) = false := by
      have : sgn3 x 0 ≠ 0 := fun h => h0 (sgn3_zero h)
      simpa using this
    have k0 := b1.c0
    have k1 := b1.c1
    have hl := tzf_lt (a := x.natAbs) (by omega)
    go_wp2_with fail
    refine (trailingZerosOut_any _ _ _ _ _ _ h HT.out).mono ?_
    rintro e w2 ⟨t, rfl, ht, hw2⟩
    have htt := tzf_of ht
    have h := h.below hw2
    have b2 := b1.below hw2
    have c2 := c1.below hw2
    have HT := Lib.hid (HT.out.below hw2)
    obtain ⟨hB2, hB2'⟩ := bnext hB1 (by omega) hw2
    have hz2 := hw2.size
    clear k0 k1 b1 c1 hw2 hs0
    rw [← htt] at hl
    have hdm : dmk x f = if f < -65536 - (t : Int) ∨ 65536 - (blen x.natAbs : Int) < f then none else some (x / 2 ^ t, f + t) := by
      unfold dmk; rw [if_neg h0, htt]
    have H0 := Lib.hid h0; clear h0
    have HTT := Lib.hid htt; clear htt
    have HTZ := Lib.hid ht; clear ht
    generalize hbb : blen x.natAbs = bl at *
    have HBB := Lib.hid hbb; clear hbb
    have k0 := b2.c0
    have k1 := b2.c1
    by_cases hc1 : f < -65536 - (t : Int)
    · rw [if_pos (Or.inl hc1)] at hdm
      have HDM := Lib.hid hdm; clear hdm
      go_wp2_with fail
      refine (bad_any _).mono ?_
      rintro e w3 ⟨rfl, hw3⟩
      have c3 := c2.below hw3
      obtain ⟨hB3, hB3'⟩ := bnext hB2 (by omega) hw3
      have q0 := c3.c0
      have q1 := c3.c1
      have q2 := c3.c2
      have q3 := c3.c3
      have f0 := c3.f 0
      have f1 := c3.f 1
      have f2 := c3.f 2
      have f3 := c3.f 3
      have hres := dn_stored c3 (dn_bad w3) w hB3 (Nat.le_succ B)
      have z3 := c3.stored true false none 0 0 0
      have z0 := z3.c0
      have z1 := z3.c1
      have z2 := z3.c2
      have z4 := z3.c3
      have HRES := Lib.hid hres; clear hres z3
      go_wp2
      refine bodyPost_ret (v := .agg #[.bool true, .bool false, .slice none 0 0, .int .i64 0]) (by simp [results, Tryz.results28, go_sem, z0, z1, z2, z4]) rfl ⟨_, rfl, ?_, ?_⟩
      · rw [HDM.out]; exact HRES.out.1
      · show Below _ _ _; rw [HBe.out]; exact HRES.out.2
    · by_cases hc2 : 65536 - (bl : Int) < f
      · rw [if_pos (Or.inr hc2)] at hdm
        have HDM := Lib.hid hdm; clear hdm
        go_wp2_with fail
        refine (bitLenOut_any _ _ _ _ _ _ h).mono ?_
        rintro e w3 ⟨rfl, hw3⟩
        rw [HBB.out]
        have c3 := c2.below hw3
        obtain ⟨hB3, hB3'⟩ := bnext hB2 (by omega) hw3
        have hz3 := hw3.size
        go_wp2_with fail
        refine (bad_any _).mono ?_
        rintro e w4 ⟨rfl, hw4⟩
        have c4 := c3.below hw4
        obtain ⟨hB4, hB4'⟩ := bnext hB3 (by omega) hw4
        have q0 := c4.c0
        have q1 := c4.c1
        have q2 := c4.c2
        have q3 := c4.c3
        have f0 := c4.f 0
        have f1 := c4.f 1
        have f2 := c4.f 2
        have f3 := c4.f 3
        have hres := dn_stored c4 (dn_bad w4) w hB4 (Nat.le_succ B)
        have z3 := c4.stored true false none 0 0 0
        have z0 := z3.c0
        have z1 := z3.c1
        have z2 := z3.c2
        have z4 := z3.c3
        have HRES := Lib.hid hres; clear hres z3
        go_wp2
        refine bodyPost_ret (v := .agg #[.bool true, .bool false, .slice none 0 0, .int .i64 0]) (by simp [results, Tryz.results28, go_sem, z0, z1, z2, z4]) rfl ⟨_, rfl, ?_, ?_⟩
        · rw [HDM.out]; exact HRES.out.1
        · show Below _ _ _; rw [HBe.out]; exact HRES.out.2
      · rw [if_neg (by omega)] at hdm
        go_wp2_with fail
        refine (bitLenOut_any _ _ _ _ _ _ h).mono ?_
        rintro e w3 ⟨rfl, hw3⟩
        rw [HBB.out]
        have h := h.below hw3
        have b3 := b2.below hw3
        have c3 := c2.below hw3
        have HT := Lib.hid (HT.out.below hw3)
        obtain ⟨hB3, hB3'⟩ := bnext hB2 (by omega) hw3
        have hz3 := hw3.size
        clear k0 k1 hw3
        have k0 := b3.c0
        have k1 := b3.c1
        rw [hdm] at hnd
        have HND := Lib.hid hnd; clear hnd
        have HDM := Lib.hid hdm; clear hdm
        go_wp2_with fail
        refine (oddPart_any _ _ _ _ _ _ _ h H0.out HTZ.out HT.out).mono ?_
        rintro e w4 ⟨nr, ro, l, cr, rfl, hr, hw4⟩
        have c4 := c3.below hw4
        obtain ⟨hB4, hB4'⟩ := bnext hB3 (by omega) hw4
        have hdn : Dn w4 (.agg #[.bool false, .bool nr, .slice ro l cr, .int .i64 (f + t)]) (some (x / 2 ^ t, f + t)) := ⟨HND.out, nr, ro, l, cr, rfl, hr⟩
        clear k0 k1
        have q0 := c4.c0
        have q1 := c4.c1
        have q2 := c4.c2
        have q3 := c4.c3
        have f0 := c4.f 0
        have f1 := c4.f 1
        have f2 := c4.f 2
        have f3 := c4.f 3
        have hres := dn_stored c4 hdn w hB4 (Nat.le_succ B)
        have z3 := c4.stored false nr ro l cr (f + t)
        have z0 := z3.c0
        have z1 := z3.c1
        have z2 := z3.c2
        have z4 := z3.c3
        have HRES := Lib.hid hres; clear hres z3
        go_wp2
        refine bodyPost_ret (v := .agg #[.bool false, .bool nr, .slice ro l cr, .int .i64 (f + t)]) (by simp [results, Tryz.results28, go_sem, z0, z1, z2, z4]) rfl ⟨_, rfl, ?_, ?_⟩
        · rw [HDM.out]; exact HRES.out.1
        · show Below _ _ _; rw [HBe.out]; exact HRES.out.2
end Go.Proofs.YtapcecjbmcoliaaGreatDoor
