import Derived.Test.YtolghagbpnjpgaaDoorIMonoU10
import Derived.Deep.CutBlock
namespace Go.Proofs.YtolghagbpnjpgaaDoor
open Go.RowKit

theorem nd_blen {d : Dy} (h : Nd d) : blen (dm d).natAbs ≤ 131072 ∧ -65536 ≤ dx d ∧ dx d ≤ 65536 := by
  cases d with
  | none => simp [dm, dx, blen]
  | some p =>
    obtain ⟨m, e⟩ := p
    show blen m.natAbs ≤ 131072 ∧ -65536 ≤ e ∧ e ≤ 65536
    rcases h with ⟨rfl, rfl⟩ | ⟨h1, h2, h3⟩
    · simp [blen]
    · omega

theorem blen_lt (a : Nat) : a < 2 ^ blen a := by
  by_cases h : a = 0
  · subst h; simp [blen]
  · obtain ⟨l, h1, _, h3⟩ := blen_spec h
    rw [h1]; exact h3

theorem limbs_of_blen {a k : Nat} (h : blen a ≤ 32 * k) : (limbs a).length ≤ k := by
  rw [limbs_len_le]
  exact Nat.lt_of_lt_of_le (blen_lt a) (pow_limbs h)

end Go.Proofs.YtolghagbpnjpgaaDoor

namespace Go.Proofs.YtolghagbpnjpgaaDoor
open Go.RowKit

theorem sc_some (m e : Int) : sc (some (m, e)) = m * 2 ^ (e + 65536).toNat := rfl

theorem boxes_al (w : World) (bb nb : Bool) (ao : Option Addr) (n cap : Nat) (e : Int) (cb mb : Bool) (bo : Option Addr) (m cap' : Nat) (f : Int) :
    ∃ W, W = (((w.alloc (.cells #[.bool bb, .bool nb, .slice ao n cap, .int .i64 e] 37)).alloc (.cells #[.bool cb, .bool mb, .slice bo m cap', .int .i64 f] 37)).alloc (.cells #[.bool false, .slice none 0 0] 35)).alloc (.cells #[.bool false, .slice none 0 0] 35) ∧ Below w.heap.size w W ∧
      DBox W w.heap.size bb nb ao n cap e ∧ DBox W (w.heap.size + 1) cb mb bo m cap' f ∧ Box W (w.heap.size + 1 + 1) false none 0 0 ∧ Box W (w.heap.size + 1 + 1 + 1) false none 0 0 ∧ w.heap.size + 4 ≤ W.heap.size := by
  refine ⟨_, rfl, ((((Below.refl _ w).alloc (Nat.le_refl _) _).alloc (by simp) _).alloc (by simp <;> omega) _).alloc (by simp <;> omega) _, ?_, ?_, ?_, ?_, by simp⟩
  · exact (DBox.new w bb nb ao n cap e).below ((((Below.refl _ _).alloc (Nat.le_refl _) _).alloc (by simp) _).alloc (by simp <;> omega) _)
  · have := (DBox.new (w.alloc (.cells #[.bool bb, .bool nb, .slice ao n cap, .int .i64 e] 37)) cb mb bo m cap' f).below (((Below.refl _ _).alloc (Nat.le_refl _) (.cells #[.bool false, .slice none 0 0] 35)).alloc (by simp) (.cells #[.bool false, .slice none 0 0] 35))
    simpa using this
  · have := (Box.new ((w.alloc (.cells #[.bool bb, .bool nb, .slice ao n cap, .int .i64 e] 37)).alloc (.cells #[.bool cb, .bool mb, .slice bo m cap', .int .i64 f] 37)) false none 0 0).below ((Below.refl _ _).alloc (Nat.le_refl _) (.cells #[.bool false, .slice none 0 0] 35))
    simpa using this
  · have := Box.new (((w.alloc (.cells #[.bool bb, .bool nb, .slice ao n cap, .int .i64 e] 37)).alloc (.cells #[.bool cb, .bool mb, .slice bo m cap', .int .i64 f] 37)).alloc (.cells #[.bool false, .slice none 0 0] 35)) false none 0 0
    simpa using this

/-- two integers X, Y of one exponent E, for two dyads -/
def Aligned (d d' : Dy) (X Y E : Int) : Prop := -65536 ≤ E ∧ E ≤ 65536 ∧ sc d = X * 2 ^ (E + 65536).toNat ∧ sc d' = Y * 2 ^ (E + 65536).toNat ∧ blen X.natAbs ≤ 131072 ∧ blen Y.natAbs ≤ 131072

theorem blen_shift {m e f : Int} (h : Nd (some (m, e))) (hf : -65536 ≤ f) (hfe : f ≤ e) : blen (m * 2 ^ (e - f).toNat).natAbs ≤ 131072 := by
  by_cases h0 : m = 0
  · subst h0; simp [blen]
  · rcases h with ⟨h1, _⟩ | ⟨_, h2, h3⟩
    · exact absurd h1 h0
    · rw [natAbs_shift, blen_mul (by omega)]; omega

theorem sc_shift {m e f : Int} (hf : -65536 ≤ f) (hfe : f ≤ e) : sc (some (m, e)) = m * 2 ^ (e - f).toNat * 2 ^ (f + 65536).toNat := by
  rw [sc_some, Int.mul_assoc, ← Int.pow_add]
  congr 2; omega

theorem Aligned.mk1 {m e m' e' : Int} (h : Nd (some (m, e))) (h' : Nd (some (m', e'))) (hle : e' ≤ e) : Aligned (some (m, e)) (some (m', e')) (m * 2 ^ (e - e').toNat) m' e' := by
  have a := nd_blen h
  have b := nd_blen h'
  simp only [dm, dx, Option.getD_some] at a b
  exact ⟨by omega, by omega, sc_shift (by omega) hle, rfl, blen_shift h (by omega) hle, by omega⟩
theorem Aligned.mk2 {m e m' e' : Int} (h : Nd (some (m, e))) (h' : Nd (some (m', e'))) (hle : e ≤ e') : Aligned (some (m, e)) (some (m', e')) m (m' * 2 ^ (e' - e).toNat) e := by
  have a := nd_blen h
  have b := nd_blen h'
  simp only [dm, dx, Option.getD_some] at a b
  exact ⟨by omega, by omega, rfl, sc_shift (by omega) hle, by omega, blen_shift h' (by omega) hle⟩
theorem Aligned.zero1 {m e m' e' : Int} (h' : Nd (some (m', e'))) (h0 : m = 0) : Aligned (some (m, e)) (some (m', e')) m m' e' := by
  have b := nd_blen h'
  simp only [dm, dx, Option.getD_some] at b
  exact ⟨by omega, by omega, by rw [sc_some, h0]; simp, rfl, by rw [h0]; simp [blen], by omega⟩
theorem Aligned.zero2 {m e m' e' : Int} (h : Nd (some (m, e))) (h0 : m' = 0) : Aligned (some (m, e)) (some (m', e')) m m' e := by
  have b := nd_blen h
  simp only [dm, dx, Option.getD_some] at b
  exact ⟨by omega, by omega, rfl, by rw [sc_some, h0]; simp, by omega, by rw [h0]; simp [blen]⟩

theorem bn_bg_of {w : World} {nb : Bool} {ao : Option Addr} {n ca : Nat} {x : Int} (h : Bn w nb ao n ca x) (hb : blen x.natAbs ≤ 1000000) : Bg w nb ao n ca x := by
  have hl : n ≤ 40000 := by rw [← h.sl.len]; exact limbs_of_blen (by omega)
  exact h.bg (by omega)

theorem Bg.only_bx {w w' : World} {g : Nat} {nb mb : Bool} {ao ro : Option Addr} {n cap k cr : Nat} {x : Int} (h : Bg w mb ro k cr x) (hx : Box w g nb ao n cap) (ho : Only g w w') : Bg w' mb ro k cr x := by
  obtain ⟨⟨zs, h1, h2⟩, h3⟩ := h
  exact ⟨⟨zs, h1.only_box hx ho, h2⟩, h3⟩

/-- two integers stored in their places -/
theorem two_bigs {w w0 : World} {g h B : Nat} {nb mb xn yn : Bool} {ao bo xo yo : Option Addr} {n m ca cb xk xc yk yc : Nat} {X Y : Int} (hg : Box w g nb ao n ca) (hh : Box w h mb bo m cb) (hne : g ≠ h) (hBg : B ≤ g) (hBh : B ≤ h)
    (hx : Bg w xn xo xk xc X) (hy : Bg w yn yo yk yc Y) (hb : Below B w0 w) :
    Bg ((((w.setCell ⟨g, 0, none⟩ (.bool xn)).setCell ⟨g, 1, none⟩ (.slice xo xk xc)).setCell ⟨h, 0, none⟩ (.bool yn)).setCell ⟨h, 1, none⟩ (.slice yo yk yc)).drew xn xo xk xc X ∧
    Bg ((((w.setCell ⟨g, 0, none⟩ (.bool xn)).setCell ⟨g, 1, none⟩ (.slice xo xk xc)).setCell ⟨h, 0, none⟩ (.bool yn)).setCell ⟨h, 1, none⟩ (.slice yo yk yc)).drew yn yo yk yc Y ∧
    Below B w0 ((((w.setCell ⟨g, 0, none⟩ (.bool xn)).setCell ⟨g, 1, none⟩ (.slice xo xk xc)).setCell ⟨h, 0, none⟩ (.bool yn)).setCell ⟨h, 1, none⟩ (.slice yo yk yc)).drew ∧
    Box ((((w.setCell ⟨g, 0, none⟩ (.bool xn)).setCell ⟨g, 1, none⟩ (.slice xo xk xc)).setCell ⟨h, 0, none⟩ (.bool yn)).setCell ⟨h, 1, none⟩ (.slice yo yk yc)).drew g xn xo xk xc ∧
    Box ((((w.setCell ⟨g, 0, none⟩ (.bool xn)).setCell ⟨g, 1, none⟩ (.slice xo xk xc)).setCell ⟨h, 0, none⟩ (.bool yn)).setCell ⟨h, 1, none⟩ (.slice yo yk yc)).drew h yn yo yk yc := by
  have o1 := only_set2 w g (.bool xn) (.slice xo xk xc)
  have g1 := hg.stored xn xo xk xc
  have h1 := hh.only o1 hne.symm
  have x1 := hx.only_bx hg o1
  have y1 := hy.only_bx hg o1
  generalize (w.setCell ⟨g, 0, none⟩ (.bool xn)).setCell ⟨g, 1, none⟩ (.slice xo xk xc) = w1 at *
  have o2 := only_set2 w1 h (.bool yn) (.slice yo yk yc)
  exact ⟨(x1.only_bx h1 o2).drew, (y1.only_bx h1 o2).drew, ((hb.trans (o1.below hBg)).trans (o2.below hBh)).drew, (g1.only o2 hne).drew, (h1.stored yn yo yk yc).drew⟩

end Go.Proofs.YtolghagbpnjpgaaDoor

namespace Go.Proofs.YtolghagbpnjpgaaDoor
open Go.RowKit

theorem boxes_two_d (w : World) (bb nb : Bool) (ao : Option Addr) (n cap : Nat) (e : Int) (cb mb : Bool) (bo : Option Addr) (m cap' : Nat) (f : Int) :
    ∃ W, W = (w.alloc (.cells #[.bool bb, .bool nb, .slice ao n cap, .int .i64 e] 37)).alloc (.cells #[.bool cb, .bool mb, .slice bo m cap', .int .i64 f] 37) ∧ Below w.heap.size w W ∧
      DBox W w.heap.size bb nb ao n cap e ∧ DBox W (w.heap.size + 1) cb mb bo m cap' f ∧ w.heap.size + 2 ≤ W.heap.size := by
  refine ⟨_, rfl, ((Below.refl _ w).alloc (Nat.le_refl _) _).alloc (by simp) _, ?_, ?_, by simp⟩
  · exact (DBox.new w bb nb ao n cap e).below ((Below.refl _ _).alloc (Nat.le_refl _) _)
  · have := DBox.new (w.alloc (.cells #[.bool bb, .bool nb, .slice ao n cap, .int .i64 e] 37)) cb mb bo m cap' f
    simpa using this

theorem boxes_bb (w : World) (nb : Bool) (ao : Option Addr) (n ca : Nat) (mb : Bool) (bo : Option Addr) (m cb : Nat) :
    ∃ W, W = (w.alloc (.cells #[.bool nb, .slice ao n ca] 35)).alloc (.cells #[.bool mb, .slice bo m cb] 35) ∧ Below w.heap.size w W ∧ Box W w.heap.size nb ao n ca ∧ Box W (w.heap.size + 1) mb bo m cb := by
  refine ⟨_, rfl, ((Below.refl _ w).alloc (Nat.le_refl _) _).alloc (by simp) _, ?_, ?_⟩
  · exact (Box.new w nb ao n ca).below ((Below.refl _ _).alloc (Nat.le_refl _) _)
  · have := Box.new (w.alloc (.cells #[.bool nb, .slice ao n ca] 35)) mb bo m cb
    simpa using this

theorem dn_some {w : World} {bb nb : Bool} {ao : Option Addr} {n ca : Nat} {f : Int} {m e : Int} (h : Dn w (.agg #[.bool bb, .bool nb, .slice ao n ca, .int .i64 f]) (some (m, e))) : bb = false ∧ f = e ∧ Bn w nb ao n ca m := by
  obtain ⟨_, nb', ao', n', ca', h1, h2⟩ := h
  simp only [Value.agg.injEq, Array.mk.injEq, List.cons.injEq, Value.bool.injEq, Value.slice.injEq, Value.int.injEq, and_true, true_and] at h1
  obtain ⟨rfl, rfl, ⟨rfl, rfl, rfl⟩, rfl⟩ := h1
  exact ⟨rfl, rfl, h2⟩
theorem dn_none {w : World} {bb nb : Bool} {ao : Option Addr} {n ca : Nat} {f : Int} (h : Dn w (.agg #[.bool bb, .bool nb, .slice ao n ca, .int .i64 f]) none) : bb = true := by
  obtain ⟨_, nb', ao', n', ca', h1, h2⟩ := h
  simp only [Value.agg.injEq, Array.mk.injEq, List.cons.injEq, Value.bool.injEq, Value.slice.injEq, Value.int.injEq, and_true, true_and] at h1
  exact h1.1
theorem Dn.parts {w : World} {v : Value} {d : Dy} (h : Dn w v d) : ∃ bb nb ao n ca f, v = .agg #[.bool bb, .bool nb, .slice ao n ca, .int .i64 f] := by
  obtain ⟨_, nb', ao', n', ca', h1, h2⟩ := h
  exact ⟨_, _, _, _, _, _, h1⟩
theorem Dn.drew {w : World} {v : Value} {d : Dy} (h : Dn w v d) : Dn w.drew v d := h.ext (Below.refl _ _).drew
theorem Table.drew {w : World} (h : Table w) : Table w.drew := h.below (Below.refl _ _).drew
theorem DBox.drew {w : World} {g : Nat} {bb nb : Bool} {ao : Option Addr} {n ca : Nat} {e : Int} (h : DBox w g bb nb ao n ca e) : DBox w.drew g bb nb ao n ca e := h

/-- two dyads stored in their places -/
theorem two_dyads {w w0 : World} {g h B : Nat} {bb nb cc mb xb xn yb yn : Bool} {ao bo xo yo : Option Addr} {n m ca cb xk xc yk yc : Nat} {e f xe ye : Int} {d d' : Dy} (hg : DBox w g bb nb ao n ca e) (hh : DBox w h cc mb bo m cb f) (hne : g ≠ h) (hBg : B ≤ g) (hBh : B ≤ h)
    (hx : Dn w (.agg #[.bool xb, .bool xn, .slice xo xk xc, .int .i64 xe]) d) (hy : Dn w (.agg #[.bool yb, .bool yn, .slice yo yk yc, .int .i64 ye]) d') (hb : Below B w0 w) :
    ∃ W, W = ((((((((w.setCell ⟨g, 0, none⟩ (.bool xb)).setCell ⟨g, 1, none⟩ (.bool xn)).setCell ⟨g, 2, none⟩ (.slice xo xk xc)).setCell ⟨g, 3, none⟩ (.int .i64 xe)).setCell ⟨h, 0, none⟩ (.bool yb)).setCell ⟨h, 1, none⟩ (.bool yn)).setCell ⟨h, 2, none⟩ (.slice yo yk yc)).setCell ⟨h, 3, none⟩ (.int .i64 ye)) ∧
      Dn W (.agg #[.bool xb, .bool xn, .slice xo xk xc, .int .i64 xe]) d ∧ Dn W (.agg #[.bool yb, .bool yn, .slice yo yk yc, .int .i64 ye]) d' ∧ Below B w0 W ∧
      DBox W g xb xn xo xk xc xe ∧ DBox W h yb yn yo yk yc ye ∧ (∀ k, k ≠ g → k ≠ h → W.heap[k]? = w.heap[k]?) ∧ W.heap.size = w.heap.size := by
  refine ⟨_, rfl, ?_⟩
  have o1 := only_set4 w g (.bool xb) (.bool xn) (.slice xo xk xc) (.int .i64 xe)
  have g1 := hg.stored xb xn xo xk xc xe
  have h1 := hh.only o1 hne.symm
  have x1 := hx.only_dbox hg o1
  have y1 := hy.only_dbox hg o1
  generalize (((w.setCell ⟨g, 0, none⟩ (.bool xb)).setCell ⟨g, 1, none⟩ (.bool xn)).setCell ⟨g, 2, none⟩ (.slice xo xk xc)).setCell ⟨g, 3, none⟩ (.int .i64 xe) = w1 at *
  have o2 := only_set4 w1 h (.bool yb) (.bool yn) (.slice yo yk yc) (.int .i64 ye)
  exact ⟨x1.only_dbox h1 o2, y1.only_dbox h1 o2, (hb.trans (o1.below hBg)).trans (o2.below hBh), g1.only o2 hne, h1.stored yb yn yo yk yc ye, fun k hk1 hk2 => by rw [o2.block k hk2, o1.block k hk1], by rw [o2.size, o1.size]⟩

/-- the difference -/
def dsub (d d' : Dy) : Dy := dadd d (dneg d')

end Go.Proofs.YtolghagbpnjpgaaDoor

namespace Go.Proofs.YtolghagbpnjpgaaDoor
open Go.RowKit

theorem Dn.get {w : World} {bb nb : Bool} {ao : Option Addr} {n ca : Nat} {f : Int} {d : Dy} (h : Dn w (.agg #[.bool bb, .bool nb, .slice ao n ca, .int .i64 f]) d) : bb = d.isNone ∧ f = dx d ∧ Bn w nb ao n ca (dm d) := by
  obtain ⟨_, nb', ao', n', ca', h1, h2⟩ := h
  simp only [Value.agg.injEq, Array.mk.injEq, List.cons.injEq, Value.bool.injEq, Value.slice.injEq, Value.int.injEq, and_true, true_and] at h1
  obtain ⟨rfl, rfl, ⟨rfl, rfl, rfl⟩, rfl⟩ := h1
  exact ⟨rfl, rfl, h2⟩
theorem Dn.put {w : World} {bb nb : Bool} {ao : Option Addr} {n ca : Nat} {f : Int} {d : Dy} (h0 : Nd d) (h1 : bb = d.isNone) (h2 : f = dx d) (h3 : Bn w nb ao n ca (dm d)) : Dn w (.agg #[.bool bb, .bool nb, .slice ao n ca, .int .i64 f]) d :=
  ⟨h0, nb, ao, n, ca, by rw [h1, h2], h3⟩

end Go.Proofs.YtolghagbpnjpgaaDoor

namespace Go.Proofs.YtolghagbpnjpgaaDoor
open Go.RowKit

theorem Box.ext' {w w' : World} {g : Nat} {nb : Bool} {ao : Option Addr} {n ca : Nat} (h : Box w g nb ao n ca) (he : Ext w w') : Box w' g nb ao n ca := h.below he
theorem Bg.ext {w w' : World} {nb : Bool} {ao : Option Addr} {n ca : Nat} {x : Int} (h : Bg w nb ao n ca x) (he : Ext w w') : Bg w' nb ao n ca x := h.below he

end Go.Proofs.YtolghagbpnjpgaaDoor

namespace Go.Proofs.YtolghagbpnjpgaaDoor
open Go.RowKit

theorem sgn3_common {x y : Int} {k : Nat} : sgn3 (x * 2 ^ k) (y * 2 ^ k) = sgn3 x y := by
  have hp := two_pos k
  unfold sgn3
  rcases Int.lt_trichotomy x y with h | h | h
  · rw [if_pos (Int.mul_lt_mul_of_pos_right h hp), if_pos h]
  · subst h; simp
  · have := Int.mul_lt_mul_of_pos_right h hp
    rw [if_neg (by omega), if_pos this, if_neg (by omega), if_pos h]

/-- the two results of a comparison -/
def CmpOut (d d' : Dy) (e : Ending) : Prop :=
  (d = none ∨ d' = none) ∧ e = .returned (.tuple #[.int .i64 0, .bool false]) ∨ d ≠ none ∧ d' ≠ none ∧ e = .returned (.tuple #[.int .i64 (sgn3 (sc d) (sc d')), .bool true])

end Go.Proofs.YtolghagbpnjpgaaDoor

namespace Go.Proofs.YtolghagbpnjpgaaDoor
open Go.RowKit

theorem Dn.num {w : World} {bb nb : Bool} {ao : Option Addr} {n ca : Nat} {f : Int} {d : Dy} (h : Dn w (.agg #[.bool bb, .bool nb, .slice ao n ca, .int .i64 f]) d) : bb = d.isNone ∧ f = dx d ∧ Bn w nb ao n ca (dm d) := h.get

end Go.Proofs.YtolghagbpnjpgaaDoor

namespace Go.Proofs.YtolghagbpnjpgaaDoor
open Go.RowKit

theorem dn_lit {w : World} {nb : Bool} {ao : Option Addr} {n ca : Nat} {m f : Int} (h : Bn w nb ao n ca m) (h0 : Nd (some (m, f))) : Dn w (.agg #[.bool false, .bool nb, .slice ao n ca, .int .i64 f]) (some (m, f)) := ⟨h0, nb, ao, n, ca, rfl, h⟩

end Go.Proofs.YtolghagbpnjpgaaDoor
