/- What dyad.top and aligned do: two dyads as integers of one exponent. -/
import Derived.Test.YtjohpdobnedilaaDoorGj
namespace Go.Proofs.YtjohpdobnedilaaDoor
open Go.RowKit

theorem sc_some (m e : Int) : sc (some (m, e)) = m * 2 ^ (e + 65536).toNat := rfl

theorem boxes_al (w : World) (bb nb : Bool) (ao : Option Addr) (n cap : Nat) (e : Int) (cb mb : Bool) (bo : Option Addr) (m cap' : Nat) (f : Int) :
    ∃ W, W = (((w.alloc (.cells #[.bool bb, .bool nb, .slice ao n cap, .int .i64 e] 43)).alloc (.cells #[.bool cb, .bool mb, .slice bo m cap', .int .i64 f] 43)).alloc (.cells #[.bool false, .slice none 0 0] 41)).alloc (.cells #[.bool false, .slice none 0 0] 41) ∧ Below w.heap.size w W ∧
      DBox W w.heap.size bb nb ao n cap e ∧ DBox W (w.heap.size + 1) cb mb bo m cap' f ∧ Box W (w.heap.size + 1 + 1) false none 0 0 ∧ Box W (w.heap.size + 1 + 1 + 1) false none 0 0 ∧ w.heap.size + 4 ≤ W.heap.size := by
  refine ⟨_, rfl, ((((Below.refl _ w).alloc (Nat.le_refl _) _).alloc (by simp) _).alloc (by simp <;> omega) _).alloc (by simp <;> omega) _, ?_, ?_, ?_, ?_, by simp⟩
  · exact (DBox.new w bb nb ao n cap e).below ((((Below.refl _ _).alloc (Nat.le_refl _) _).alloc (by simp) _).alloc (by simp <;> omega) _)
  · have := (DBox.new (w.alloc (.cells #[.bool bb, .bool nb, .slice ao n cap, .int .i64 e] 43)) cb mb bo m cap' f).below (((Below.refl _ _).alloc (Nat.le_refl _) (.cells #[.bool false, .slice none 0 0] 41)).alloc (by simp) (.cells #[.bool false, .slice none 0 0] 41))
    simpa using this
  · have := (Box.new ((w.alloc (.cells #[.bool bb, .bool nb, .slice ao n cap, .int .i64 e] 43)).alloc (.cells #[.bool cb, .bool mb, .slice bo m cap', .int .i64 f] 43)) false none 0 0).below ((Below.refl _ _).alloc (Nat.le_refl _) (.cells #[.bool false, .slice none 0 0] 41))
    simpa using this
  · have := Box.new (((w.alloc (.cells #[.bool bb, .bool nb, .slice ao n cap, .int .i64 e] 43)).alloc (.cells #[.bool cb, .bool mb, .slice bo m cap', .int .i64 f] 43)).alloc (.cells #[.bool false, .slice none 0 0] 41)) false none 0 0
    simpa using this

/-- two integers X, Y of one exponent E, for two dyads -/
def Aligned (d d' : Dy) (X Y E : Int) : Prop := -65536 ≤ E ∧ E ≤ 65536 ∧ sc d = X * 2 ^ (E + 65536).toNat ∧ sc d' = Y * 2 ^ (E + 65536).toNat ∧ blen X.natAbs ≤ 131072 ∧ blen Y.natAbs ≤ 131072

theorem blen_shift {m e f : Int} (h : Nd (some (m, e))) (hf : -65536 ≤ f) (hfe : f ≤ e) : blen (m * 2 ^ (e - f).toNat).natAbs ≤ 131072 := by
  by_cases h0 : m = 0
  · subst h0; simp [blen]
  · rcases h with ⟨h1, _⟩ | ⟨_, h2, h3⟩
    · exact absurd h1 h0
    · rw [natAbs_shift, blen_mul (by omega)]; omega

theorem sc_shift {m e f : Int} (hf : -65536 ≤ f) (hfe : f ≤ e) : sc (some (m, e)) = m * 2 ^ (e - f).toNat * 2 ^ (f + 65536).toNat := by
  rw [sc_some, Int.mul_assoc, ← Int.pow_add]
  congr 2; omega

theorem Aligned.mk1 {m e m' e' : Int} (h : Nd (some (m, e))) (h' : Nd (some (m', e'))) (hle : e' ≤ e) : Aligned (some (m, e)) (some (m', e')) (m * 2 ^ (e - e').toNat) m' e' := by
  have a := nd_blen h
  have b := nd_blen h'
  simp only [dm, dx, Option.getD_some] at a b
  exact ⟨by omega, by omega, sc_shift (by omega) hle, rfl, blen_shift h (by omega) hle, by omega⟩
theorem Aligned.mk2 {m e m' e' : Int} (h : Nd (some (m, e))) (h' : Nd (some (m', e'))) (hle : e ≤ e') : Aligned (some (m, e)) (some (m', e')) m (m' * 2 ^ (e' - e).toNat) e := by
  have a := nd_blen h
  have b := nd_blen h'
  simp only [dm, dx, Option.getD_some] at a b
  exact ⟨by omega, by omega, rfl, sc_shift (by omega) hle, by omega, blen_shift h' (by omega) hle⟩
theorem Aligned.zero1 {m e m' e' : Int} (h' : Nd (some (m', e'))) (h0 : m = 0) : Aligned (some (m, e)) (some (m', e')) m m' e' := by
  have b := nd_blen h'
  simp only [dm, dx, Option.getD_some] at b
  exact ⟨by omega, by omega, by rw [sc_some, h0]; simp, rfl, by rw [h0]; simp [blen], by omega⟩
theorem Aligned.zero2 {m e m' e' : Int} (h : Nd (some (m, e))) (h0 : m' = 0) : Aligned (some (m, e)) (some (m', e')) m m' e := by
  have b := nd_blen h
  simp only [dm, dx, Option.getD_some] at b
  exact ⟨by omega, by omega, rfl, by rw [sc_some, h0]; simp, by omega, by rw [h0]; simp [blen]⟩

theorem blen_add (x y : Int) : blen (x + y).natAbs ≤ max (blen x.natAbs) (blen y.natAbs) + 1 := by
  apply blen_le_of_lt
  have a := Nat.lt_of_lt_of_le (blen_lt x.natAbs) (Nat.pow_le_pow_right (show 0 < 2 by omega) (Nat.le_max_left (blen x.natAbs) (blen y.natAbs)))
  have b := Nat.lt_of_lt_of_le (blen_lt y.natAbs) (Nat.pow_le_pow_right (show 0 < 2 by omega) (Nat.le_max_right (blen x.natAbs) (blen y.natAbs)))
  have h := Int.natAbs_add_le x y
  rw [Nat.pow_succ]
  omega
theorem blen_mul_le (x y : Int) : blen (x * y).natAbs ≤ blen x.natAbs + blen y.natAbs := by
  apply blen_le_of_lt
  rw [Int.natAbs_mul, Nat.pow_add]
  have a := blen_lt x.natAbs
  have b := blen_lt y.natAbs
  exact Nat.lt_of_le_of_lt (Nat.mul_le_mul_right _ (Nat.le_of_lt a)) (Nat.mul_lt_mul_of_pos_left b (Nat.pos_of_ne_zero (by simp)))

theorem bn_bg_of {w : World} {nb : Bool} {ao : Option Addr} {n ca : Nat} {x : Int} (h : Bn w nb ao n ca x) (hb : blen x.natAbs ≤ 1000000) : Bg w nb ao n ca x := by
  have hl : n ≤ 40000 := by rw [← h.sl.len]; exact limbs_of_blen (by omega)
  exact h.bg (by omega)

theorem Bg.only_bx {w w' : World} {g : Nat} {nb mb : Bool} {ao ro : Option Addr} {n cap k cr : Nat} {x : Int} (h : Bg w mb ro k cr x) (hx : Box w g nb ao n cap) (ho : Only g w w') : Bg w' mb ro k cr x := by
  obtain ⟨⟨zs, h1, h2⟩, h3⟩ := h
  exact ⟨⟨zs, h1.only_box hx ho, h2⟩, h3⟩

/-- two integers stored in their places -/
theorem two_bigs {w w0 : World} {g h B : Nat} {nb mb xn yn : Bool} {ao bo xo yo : Option Addr} {n m ca cb xk xc yk yc : Nat} {X Y : Int} (hg : Box w g nb ao n ca) (hh : Box w h mb bo m cb) (hne : g ≠ h) (hBg : B ≤ g) (hBh : B ≤ h)
    (hx : Bg w xn xo xk xc X) (hy : Bg w yn yo yk yc Y) (hb : Below B w0 w) :
    Bg ((((w.setCell ⟨g, 0, none⟩ (.bool xn)).setCell ⟨g, 1, none⟩ (.slice xo xk xc)).setCell ⟨h, 0, none⟩ (.bool yn)).setCell ⟨h, 1, none⟩ (.slice yo yk yc)).drew xn xo xk xc X ∧
    Bg ((((w.setCell ⟨g, 0, none⟩ (.bool xn)).setCell ⟨g, 1, none⟩ (.slice xo xk xc)).setCell ⟨h, 0, none⟩ (.bool yn)).setCell ⟨h, 1, none⟩ (.slice yo yk yc)).drew yn yo yk yc Y ∧
    Below B w0 ((((w.setCell ⟨g, 0, none⟩ (.bool xn)).setCell ⟨g, 1, none⟩ (.slice xo xk xc)).setCell ⟨h, 0, none⟩ (.bool yn)).setCell ⟨h, 1, none⟩ (.slice yo yk yc)).drew ∧
    Box ((((w.setCell ⟨g, 0, none⟩ (.bool xn)).setCell ⟨g, 1, none⟩ (.slice xo xk xc)).setCell ⟨h, 0, none⟩ (.bool yn)).setCell ⟨h, 1, none⟩ (.slice yo yk yc)).drew g xn xo xk xc ∧
    Box ((((w.setCell ⟨g, 0, none⟩ (.bool xn)).setCell ⟨g, 1, none⟩ (.slice xo xk xc)).setCell ⟨h, 0, none⟩ (.bool yn)).setCell ⟨h, 1, none⟩ (.slice yo yk yc)).drew h yn yo yk yc := by
  have o1 := only_set2 w g (.bool xn) (.slice xo xk xc)
  have g1 := hg.stored xn xo xk xc
  have h1 := hh.only o1 hne.symm
  have x1 := hx.only_bx hg o1
  have y1 := hy.only_bx hg o1
  generalize (w.setCell ⟨g, 0, none⟩ (.bool xn)).setCell ⟨g, 1, none⟩ (.slice xo xk xc) = w1 at *
  have o2 := only_set2 w1 h (.bool yn) (.slice yo yk yc)
  exact ⟨(x1.only_bx h1 o2).drew, (y1.only_bx h1 o2).drew, ((hb.trans (o1.below hBg)).trans (o2.below hBh)).drew, (g1.only o2 hne).drew, (h1.stored yn yo yk yc).drew⟩

end Go.Proofs.YtjohpdobnedilaaDoor

/- What dyad.Add and Sub do. -/
namespace Go.Proofs.YtjohpdobnedilaaDoor
open Go.RowKit

theorem boxes_two_d (w : World) (bb nb : Bool) (ao : Option Addr) (n cap : Nat) (e : Int) (cb mb : Bool) (bo : Option Addr) (m cap' : Nat) (f : Int) :
    ∃ W, W = (w.alloc (.cells #[.bool bb, .bool nb, .slice ao n cap, .int .i64 e] 43)).alloc (.cells #[.bool cb, .bool mb, .slice bo m cap', .int .i64 f] 43) ∧ Below w.heap.size w W ∧
      DBox W w.heap.size bb nb ao n cap e ∧ DBox W (w.heap.size + 1) cb mb bo m cap' f ∧ w.heap.size + 2 ≤ W.heap.size := by
  refine ⟨_, rfl, ((Below.refl _ w).alloc (Nat.le_refl _) _).alloc (by simp) _, ?_, ?_, by simp⟩
  · exact (DBox.new w bb nb ao n cap e).below ((Below.refl _ _).alloc (Nat.le_refl _) _)
  · have := DBox.new (w.alloc (.cells #[.bool bb, .bool nb, .slice ao n cap, .int .i64 e] 43)) cb mb bo m cap' f
    simpa using this

theorem boxes_bb (w : World) (nb : Bool) (ao : Option Addr) (n ca : Nat) (mb : Bool) (bo : Option Addr) (m cb : Nat) :
    ∃ W, W = (w.alloc (.cells #[.bool nb, .slice ao n ca] 41)).alloc (.cells #[.bool mb, .slice bo m cb] 41) ∧ Below w.heap.size w W ∧ Box W w.heap.size nb ao n ca ∧ Box W (w.heap.size + 1) mb bo m cb := by
  refine ⟨_, rfl, ((Below.refl _ w).alloc (Nat.le_refl _) _).alloc (by simp) _, ?_, ?_⟩
  · exact (Box.new w nb ao n ca).below ((Below.refl _ _).alloc (Nat.le_refl _) _)
  · have := Box.new (w.alloc (.cells #[.bool nb, .slice ao n ca] 41)) mb bo m cb
    simpa using this

theorem dn_some {w : World} {bb nb : Bool} {ao : Option Addr} {n ca : Nat} {f : Int} {m e : Int} (h : Dn w (.agg #[.bool bb, .bool nb, .slice ao n ca, .int .i64 f]) (some (m, e))) : bb = false ∧ f = e ∧ Bn w nb ao n ca m := by
  obtain ⟨_, nb', ao', n', ca', h1, h2⟩ := h
  simp only [Value.agg.injEq, Array.mk.injEq, List.cons.injEq, Value.bool.injEq, Value.slice.injEq, Value.int.injEq, and_true, true_and] at h1
  obtain ⟨rfl, rfl, ⟨rfl, rfl, rfl⟩, rfl⟩ := h1
  exact ⟨rfl, rfl, h2⟩
theorem dn_none {w : World} {bb nb : Bool} {ao : Option Addr} {n ca : Nat} {f : Int} (h : Dn w (.agg #[.bool bb, .bool nb, .slice ao n ca, .int .i64 f]) none) : bb = true := by
  obtain ⟨_, nb', ao', n', ca', h1, h2⟩ := h
  simp only [Value.agg.injEq, Array.mk.injEq, List.cons.injEq, Value.bool.injEq, Value.slice.injEq, Value.int.injEq, and_true, true_and] at h1
  exact h1.1
theorem Dn.parts {w : World} {v : Value} {d : Dy} (h : Dn w v d) : ∃ bb nb ao n ca f, v = .agg #[.bool bb, .bool nb, .slice ao n ca, .int .i64 f] := by
  obtain ⟨_, nb', ao', n', ca', h1, h2⟩ := h
  exact ⟨_, _, _, _, _, _, h1⟩
theorem Dn.drew {w : World} {v : Value} {d : Dy} (h : Dn w v d) : Dn w.drew v d := h.ext (Below.refl _ _).drew
theorem Dg.drew {w : World} {v : Value} {d : Dy} (h : Dg w v d) : Dg w.drew v d := h.ext (Below.refl _ _).drew
theorem Table.drew {w : World} (h : Table w) : Table w.drew := h.below (Below.refl _ _).drew
theorem DBox.drew {w : World} {g : Nat} {bb nb : Bool} {ao : Option Addr} {n ca : Nat} {e : Int} (h : DBox w g bb nb ao n ca e) : DBox w.drew g bb nb ao n ca e := h

/-- two dyads stored in their places -/
theorem two_dyads {w w0 : World} {g h B : Nat} {bb nb cc mb xb xn yb yn : Bool} {ao bo xo yo : Option Addr} {n m ca cb xk xc yk yc : Nat} {e f xe ye : Int} {d d' : Dy} (hg : DBox w g bb nb ao n ca e) (hh : DBox w h cc mb bo m cb f) (hne : g ≠ h) (hBg : B ≤ g) (hBh : B ≤ h)
    (hx : Dn w (.agg #[.bool xb, .bool xn, .slice xo xk xc, .int .i64 xe]) d) (hy : Dn w (.agg #[.bool yb, .bool yn, .slice yo yk yc, .int .i64 ye]) d') (hb : Below B w0 w) :
    ∃ W, W = ((((((((w.setCell ⟨g, 0, none⟩ (.bool xb)).setCell ⟨g, 1, none⟩ (.bool xn)).setCell ⟨g, 2, none⟩ (.slice xo xk xc)).setCell ⟨g, 3, none⟩ (.int .i64 xe)).setCell ⟨h, 0, none⟩ (.bool yb)).setCell ⟨h, 1, none⟩ (.bool yn)).setCell ⟨h, 2, none⟩ (.slice yo yk yc)).setCell ⟨h, 3, none⟩ (.int .i64 ye)) ∧
      Dn W (.agg #[.bool xb, .bool xn, .slice xo xk xc, .int .i64 xe]) d ∧ Dn W (.agg #[.bool yb, .bool yn, .slice yo yk yc, .int .i64 ye]) d' ∧ Below B w0 W ∧
      DBox W g xb xn xo xk xc xe ∧ DBox W h yb yn yo yk yc ye ∧ (∀ k, k ≠ g → k ≠ h → W.heap[k]? = w.heap[k]?) ∧ W.heap.size = w.heap.size := by
  refine ⟨_, rfl, ?_⟩
  have o1 := only_set4 w g (.bool xb) (.bool xn) (.slice xo xk xc) (.int .i64 xe)
  have g1 := hg.stored xb xn xo xk xc xe
  have h1 := hh.only o1 hne.symm
  have x1 := hx.only_dbox hg o1
  have y1 := hy.only_dbox hg o1
  generalize (((w.setCell ⟨g, 0, none⟩ (.bool xb)).setCell ⟨g, 1, none⟩ (.bool xn)).setCell ⟨g, 2, none⟩ (.slice xo xk xc)).setCell ⟨g, 3, none⟩ (.int .i64 xe) = w1 at *
  have o2 := only_set4 w1 h (.bool yb) (.bool yn) (.slice yo yk yc) (.int .i64 ye)
  exact ⟨x1.only_dbox h1 o2, y1.only_dbox h1 o2, (hb.trans (o1.below hBg)).trans (o2.below hBh), g1.only o2 hne, h1.stored yb yn yo yk yc ye, fun k hk1 hk2 => by rw [o2.block k hk2, o1.block k hk1], by rw [o2.size, o1.size]⟩

theorem Dg.only_dbox {w w' : World} {g : Nat} {bb nb : Bool} {ao : Option Addr} {n cap : Nat} {f : Int} {v : Value} {d : Dy} (h : Dg w v d) (hx : DBox w g bb nb ao n cap f) (ho : Only g w w') : Dg w' v d := by
  obtain ⟨cc, mb, bo, m, cb, x, f', h1, h2, h3⟩ := h
  exact ⟨cc, mb, bo, m, cb, x, f', h1, h2.only_dbox hx ho, h3⟩
theorem dmk_neg (x e : Int) : dneg (dmk x e) = dmk (-x) e := by
  by_cases h : x = 0
  · subst h; simp [dmk, dneg]
  · unfold dmk
    rw [if_neg h, if_neg (show ¬ -x = 0 by omega), Int.natAbs_neg]
    obtain ⟨m, h1, h2, h3⟩ := odd_part h
    have e1 : -x / 2 ^ tzf x.natAbs = -m := by
      conv => lhs; lhs; rw [h1]
      rw [← Int.neg_mul, Int.mul_ediv_cancel _ (Int.ne_of_gt (two_pos _))]
    rw [e1, h3]
    split <;> rfl

theorem dadd_al {p q : Int × Int} {X Y E : Int} (h : Aligned (some p) (some q) X Y E) : dmk (X + Y) E = dadd (some p) (some q) := by
  obtain ⟨h0, h1, h2, h3, _⟩ := h
  show _ = dmk (sc (some p) + sc (some q)) (-65536)
  rw [h2, h3, ← Int.add_mul, dmk_shift]
  congr 1; omega

theorem dg_neg {w : World} {bb nb : Bool} {ao : Option Addr} {n ca : Nat} {f : Int} {d : Dy} (h : Dg w (.agg #[.bool bb, .bool nb, .slice ao n ca, .int .i64 f]) d) : Dg w (.agg #[.bool bb, .bool (!nb), .slice ao n ca, .int .i64 f]) (dneg d) := by
  obtain ⟨cc, mb, bo, m, cb, x, f', h1, h2, h3, h4, h5⟩ := h
  simp only [Value.agg.injEq, Array.mk.injEq, List.cons.injEq, Value.bool.injEq, Value.slice.injEq, Value.int.injEq, and_true, true_and] at h1
  obtain ⟨rfl, rfl, ⟨rfl, rfl, rfl⟩, rfl⟩ := h1
  refine ⟨_, _, _, _, _, -x, _, rfl, h2.not, h3, h4, ?_⟩
  rw [h5]
  cases bb with
  | true => rfl
  | false => exact dmk_neg x f

/-- the difference -/
def dsub (d d' : Dy) : Dy := dadd d (dneg d')

end Go.Proofs.YtjohpdobnedilaaDoor

/- What dyad.Neg, Abs, Sign, top, Scale, Floor and Log2 do. -/
namespace Go.Proofs.YtjohpdobnedilaaDoor
open Go.RowKit

theorem dm_neg (d : Dy) : dm (dneg d) = -dm d ∧ dx (dneg d) = dx d ∧ (dneg d).isNone = d.isNone := by cases d <;> simp [dneg, dm, dx]
theorem dm_abs (d : Dy) : dm (dabs d) = (dm d).natAbs ∧ dx (dabs d) = dx d ∧ (dabs d).isNone = d.isNone := by cases d <;> simp [dabs, dm, dx]
theorem Dn.get {w : World} {bb nb : Bool} {ao : Option Addr} {n ca : Nat} {f : Int} {d : Dy} (h : Dn w (.agg #[.bool bb, .bool nb, .slice ao n ca, .int .i64 f]) d) : bb = d.isNone ∧ f = dx d ∧ Bn w nb ao n ca (dm d) := by
  obtain ⟨_, nb', ao', n', ca', h1, h2⟩ := h
  simp only [Value.agg.injEq, Array.mk.injEq, List.cons.injEq, Value.bool.injEq, Value.slice.injEq, Value.int.injEq, and_true, true_and] at h1
  obtain ⟨rfl, rfl, ⟨rfl, rfl, rfl⟩, rfl⟩ := h1
  exact ⟨rfl, rfl, h2⟩
theorem Dn.put {w : World} {bb nb : Bool} {ao : Option Addr} {n ca : Nat} {f : Int} {d : Dy} (h0 : Nd d) (h1 : bb = d.isNone) (h2 : f = dx d) (h3 : Bn w nb ao n ca (dm d)) : Dn w (.agg #[.bool bb, .bool nb, .slice ao n ca, .int .i64 f]) d :=
  ⟨h0, nb, ao, n, ca, by rw [h1, h2], h3⟩

/-- where the highest bit ends -/
def dtop (d : Dy) : Int := dx d + blen (dm d).natAbs

end Go.Proofs.YtjohpdobnedilaaDoor
