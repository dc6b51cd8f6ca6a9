/- What dyad.top and aligned do: two dyads as integers of one exponent. -/
import Derived.Test.YtjohpdobnedilaaGreatDoorGj
namespace Go.Proofs.YtjohpdobnedilaaGreatDoor
open Go.RowKit

theorem sc_some (m e : Int) : sc (some (m, e)) = m * 2 ^ (e + 65536).toNat := rfl

theorem boxes_al (w : World) (bb nb : Bool) (ao : Option Addr) (n cap : Nat) (e : Int) (cb mb : Bool) (bo : Option Addr) (m cap' : Nat) (f : Int) :
    ∃ W, W = (((w.alloc (.cells #[.bool bb, .bool nb, .slice ao n cap, .int .i64 e] 39)).alloc (.cells #[.bool cb, .bool mb, .slice bo m cap', .int .i64 f] 39)).alloc (.cells #[.bool false, .slice none 0 0] 37)).alloc (.cells #[.bool false, .slice none 0 0] 37) ∧ Below w.heap.size w W ∧
      DBox W w.heap.size bb nb ao n cap e ∧ DBox W (w.heap.size + 1) cb mb bo m cap' f ∧ Box W (w.heap.size + 1 + 1) false none 0 0 ∧ Box W (w.heap.size + 1 + 1 + 1) false none 0 0 ∧ w.heap.size + 4 ≤ W.heap.size := by
  refine ⟨_, rfl, ((((Below.refl _ w).alloc (Nat.le_refl _) _).alloc (by simp) _).alloc (by simp <;> omega) _).alloc (by simp <;> omega) _, ?_, ?_, ?_, ?_, by simp⟩
  · exact (DBox.new w bb nb ao n cap e).below ((((Below.refl _ _).alloc (Nat.le_refl _) _).alloc (by simp) _).alloc (by simp <;> omega) _)
  · have := (DBox.new (w.alloc (.cells #[.bool bb, .bool nb, .slice ao n cap, .int .i64 e] 39)) cb mb bo m cap' f).below (((Below.refl _ _).alloc (Nat.le_refl _) (.cells #[.bool false, .slice none 0 0] 37)).alloc (by simp) (.cells #[.bool false, .slice none 0 0] 37))
    simpa using this
  · have := (Box.new ((w.alloc (.cells #[.bool bb, .bool nb, .slice ao n cap, .int .i64 e] 39)).alloc (.cells #[.bool cb, .bool mb, .slice bo m cap', .int .i64 f] 39)) false none 0 0).below ((Below.refl _ _).alloc (Nat.le_refl _) (.cells #[.bool false, .slice none 0 0] 37))
    simpa using this
  · have := Box.new (((w.alloc (.cells #[.bool bb, .bool nb, .slice ao n cap, .int .i64 e] 39)).alloc (.cells #[.bool cb, .bool mb, .slice bo m cap', .int .i64 f] 39)).alloc (.cells #[.bool false, .slice none 0 0] 37)) false none 0 0
    simpa using this

/-- two integers X, Y of one exponent E, for two dyads -/
def Aligned (d d' : Dy) (X Y E : Int) : Prop := -65536 ≤ E ∧ E ≤ 65536 ∧ sc d = X * 2 ^ (E + 65536).toNat ∧ sc d' = Y * 2 ^ (E + 65536).toNat ∧ blen X.natAbs ≤ 131072 ∧ blen Y.natAbs ≤ 131072

theorem blen_shift {m e f : Int} (h : Nd (some (m, e))) (hf : -65536 ≤ f) (hfe : f ≤ e) : blen (m * 2 ^ (e - f).toNat).natAbs ≤ 131072 := by
  by_cases h0 : m = 0
  · subst h0; simp [blen]
  · rcases h with ⟨h1, _⟩ | ⟨_, h2, h3⟩
    · exact absurd h1 h0
    · rw [natAbs_shift, blen_mul (by omega)]; omega

theorem sc_shift {m e f : Int} (hf : -65536 ≤ f) (hfe : f ≤ e) : sc (some (m, e)) = m * 2 ^ (e - f).toNat * 2 ^ (f + 65536).toNat := by
  rw [sc_some, Int.mul_assoc, ← Int.pow_add]
  congr 2; omega

theorem Aligned.mk1 {m e m' e' : Int} (h : Nd (some (m, e))) (h' : Nd (some (m', e'))) (hle : e' ≤ e) : Aligned (some (m, e)) (some (m', e')) (m * 2 ^ (e - e').toNat) m' e' := by
  have a := nd_blen h
  have b := nd_blen h'
  simp only [dm, dx, Option.getD_some] at a b
  exact ⟨by omega, by omega, sc_shift (by omega) hle, rfl, blen_shift h (by omega) hle, by omega⟩
theorem Aligned.mk2 {m e m' e' : Int} (h : Nd (some (m, e))) (h' : Nd (some (m', e'))) (hle : e ≤ e') : Aligned (some (m, e)) (some (m', e')) m (m' * 2 ^ (e' - e).toNat) e := by
  have a := nd_blen h
  have b := nd_blen h'
  simp only [dm, dx, Option.getD_some] at a b
  exact ⟨by omega, by omega, rfl, sc_shift (by omega) hle, by omega, blen_shift h' (by omega) hle⟩
theorem Aligned.zero1 {m e m' e' : Int} (h' : Nd (some (m', e'))) (h0 : m = 0) : Aligned (some (m, e)) (some (m', e')) m m' e' := by
  have b := nd_blen h'
  simp only [dm, dx, Option.getD_some] at b
  exact ⟨by omega, by omega, by rw [sc_some, h0]; simp, rfl, by rw [h0]; simp [blen], by omega⟩
theorem Aligned.zero2 {m e m' e' : Int} (h : Nd (some (m, e))) (h0 : m' = 0) : Aligned (some (m, e)) (some (m', e')) m m' e := by
  have b := nd_blen h
  simp only [dm, dx, Option.getD_some] at b
  exact ⟨by omega, by omega, rfl, by rw [sc_some, h0]; simp, by omega, by rw [h0]; simp [blen]⟩

theorem blen_add (x y : Int) : blen (x + y).natAbs ≤ max (blen x.natAbs) (blen y.natAbs) + 1 := by
  apply blen_le_of_lt
  have a := Nat.lt_of_lt_of_le (blen_lt x.natAbs) (Nat.pow_le_pow_right (show 0 < 2 by omega) (Nat.le_max_left (blen x.natAbs) (blen y.natAbs)))
  have b := Nat.lt_of_lt_of_le (blen_lt y.natAbs) (Nat.pow_le_pow_right (show 0 < 2 by omega) (Nat.le_max_right (blen x.natAbs) (blen y.natAbs)))
  have h := Int.natAbs_add_le x y
  rw [Nat.pow_succ]
  omega
theorem blen_mul_le (x y : Int) : blen (x * y).natAbs ≤ blen x.natAbs + blen y.natAbs := by
  apply blen_le_of_lt
  rw [Int.natAbs_mul, Nat.pow_add]
  have a := blen_lt x.natAbs
  have b := blen_lt y.natAbs
  exact Nat.lt_of_le_of_lt (Nat.mul_le_mul_right _ (Nat.le_of_lt a)) (Nat.mul_lt_mul_of_pos_left b (Nat.pos_of_ne_zero (by simp)))

theorem bn_bg_of {w : World} {nb : Bool} {ao : Option Addr} {n ca : Nat} {x : Int} (h : Bn w nb ao n ca x) (hb : blen x.natAbs ≤ 1000000) : Bg w nb ao n ca x := by
  have hl : n ≤ 40000 := by rw [← h.sl.len]; exact limbs_of_blen (by omega)
  exact h.bg (by omega)

theorem Bg.only_bx {w w' : World} {g : Nat} {nb mb : Bool} {ao ro : Option Addr} {n cap k cr : Nat} {x : Int} (h : Bg w mb ro k cr x) (hx : Box w g nb ao n cap) (ho : Only g w w') : Bg w' mb ro k cr x := by
  obtain ⟨⟨zs, h1, h2⟩, h3⟩ := h
  exact ⟨⟨zs, h1.only_box hx ho, h2⟩, h3⟩

/-- two integers stored in their places -/
theorem two_bigs {w w0 : World} {g h B : Nat} {nb mb xn yn : Bool} {ao bo xo yo : Option Addr} {n m ca cb xk xc yk yc : Nat} {X Y : Int} (hg : Box w g nb ao n ca) (hh : Box w h mb bo m cb) (hne : g ≠ h) (hBg : B ≤ g) (hBh : B ≤ h)
    (hx : Bg w xn xo xk xc X) (hy : Bg w yn yo yk yc Y) (hb : Below B w0 w) :
    Bg ((((w.setCell ⟨g, 0, none⟩ (.bool xn)).setCell ⟨g, 1, none⟩ (.slice xo xk xc)).setCell ⟨h, 0, none⟩ (.bool yn)).setCell ⟨h, 1, none⟩ (.slice yo yk yc)).drew xn xo xk xc X ∧
    Bg ((((w.setCell ⟨g, 0, none⟩ (.bool xn)).setCell ⟨g, 1, none⟩ (.slice xo xk xc)).setCell ⟨h, 0, none⟩ (.bool yn)).setCell ⟨h, 1, none⟩ (.slice yo yk yc)).drew yn yo yk yc Y ∧
    Below B w0 ((((w.setCell ⟨g, 0, none⟩ (.bool xn)).setCell ⟨g, 1, none⟩ (.slice xo xk xc)).setCell ⟨h, 0, none⟩ (.bool yn)).setCell ⟨h, 1, none⟩ (.slice yo yk yc)).drew ∧
    Box ((((w.setCell ⟨g, 0, none⟩ (.bool xn)).setCell ⟨g, 1, none⟩ (.slice xo xk xc)).setCell ⟨h, 0, none⟩ (.bool yn)).setCell ⟨h, 1, none⟩ (.slice yo yk yc)).drew g xn xo xk xc ∧
    Box ((((w.setCell ⟨g, 0, none⟩ (.bool xn)).setCell ⟨g, 1, none⟩ (.slice xo xk xc)).setCell ⟨h, 0, none⟩ (.bool yn)).setCell ⟨h, 1, none⟩ (.slice yo yk yc)).drew h yn yo yk yc := by
  have o1 := only_set2 w g (.bool xn) (.slice xo xk xc)
  have g1 := hg.stored xn xo xk xc
  have h1 := hh.only o1 hne.symm
  have x1 := hx.only_bx hg o1
  have y1 := hy.only_bx hg o1
  generalize (w.setCell ⟨g, 0, none⟩ (.bool xn)).setCell ⟨g, 1, none⟩ (.slice xo xk xc) = w1 at *
  have o2 := only_set2 w1 h (.bool yn) (.slice yo yk yc)
  exact ⟨(x1.only_bx h1 o2).drew, (y1.only_bx h1 o2).drew, ((hb.trans (o1.below hBg)).trans (o2.below hBh)).drew, (g1.only o2 hne).drew, (h1.stored yn yo yk yc).drew⟩

set_option maxRecDepth 100000 in
set_option maxHeartbeats 4000000 in
theorem aligned_any (nb : Bool) (ao : Option Addr) (n ca : Nat) (m e : Int) (mb : Bool) (bo : Option Addr) (k cb : Nat) (m' e' : Int) (w : World) (ha : Bn w nb ao n ca m) (hb : Bn w mb bo k cb m') (hd : Nd (some (m, e))) (hd' : Nd (some (m', e'))) :
    Calls Tryz.prog 136 #[.agg #[.bool false, .bool nb, .slice ao n ca, .int .i64 e], .agg #[.bool false, .bool mb, .slice bo k cb, .int .i64 e']] w fun r w' =>
      ∃ xn xo xk xc yn yo yk yc X Y E, r = .returned (.tuple #[.agg #[.bool xn, .slice xo xk xc], .agg #[.bool yn, .slice yo yk yc], .int .i64 E]) ∧ Bg w' xn xo xk xc X ∧ Bg w' yn yo yk yc Y ∧ Aligned (some (m, e)) (some (m', e')) X Y E ∧ Ext w w' := by
  obtain ⟨ba, ea0, ea1⟩ := nd_blen hd
  obtain ⟨bb', eb0, eb1⟩ := nd_blen hd'
  simp only [dm, dx, Option.getD_some] at ba ea0 ea1 bb' eb0 eb1
  go_enter Tryz.func136, Tryz.ntmps136
  go_upto_region 1 with fail
  obtain ⟨W, hW, hB, hbx, hby, hr1, hr2, hz⟩ := boxes_al w false nb ao n ca e false mb bo k cb e'
  rw [← hW]
  clear hW
  have ga := bn_bg_of (ha.below hB) (by omega)
  have gb := bn_bg_of (hb.below hB) (by omega)
  generalize hBe : w.heap.size = B at *
  have HBe := Lib.hid hBe; clear hBe ha hb
  have k0 := hbx.c1
  have k1 := hbx.c2
  have k2 := hbx.c3
  go_wp2_with fail
  refine (sign_any _ _ _ _ _ _ ga).mono ?_
  rintro r w1 ⟨rfl, hw1⟩
  have ga := ga.below hw1
  have gb := gb.below hw1
  have bx := hbx.below hw1
  have bY := hby.below hw1
  have c1 := hr1.below hw1
  have c2 := hr2.below hw1
  obtain ⟨hB1, hB1'⟩ := bnext hB (by omega) hw1
  have hz1 := hw1.size
  clear k0 k1 k2 hbx hby hr1 hr2 hB hw1
  have k0 := bx.c1
  have k1 := bx.c2
  have k2 := bx.c3
  have l0 := bY.c1
  have l1 := bY.c2
  have l2 := bY.c3
  by_cases h0 : m = 0
  · have hs0 : (sgn3 m 0 == 0) = true := by simp [sgn3, h0]
    have hAl := Aligned.zero1 (e := e) hd' h0
    have HAL := Lib.hid hAl; clear hAl h0
    go_upto_region 2 with fail
    have q0 := c1.c0
    have q1 := c1.c1
    have f0 := c1.f 0
    have f1 := c1.f 1
    have p0 := c2.c0
    have p1 := c2.c1
    have g0 := c2.f 0
    have g1 := c2.f 1
    have hres := two_bigs c1 c2 (by omega) (B := B) (by omega) (by omega) ga gb hB1
    have HRES := Lib.hid hres; clear hres
    go_region
    obtain ⟨r1, r2, r3, r4, r5⟩ := HRES.out
    generalize hWe : World.drew _ = V at r1 r2 r3 r4 r5 ⊢
    have z0 := r4.c0
    have z1 := r4.c1
    have z2 := r5.c0
    have z3 := r5.c1
    have R := Lib.hid (And.intro r1 (And.intro r2 r3))
    clear r1 r2 r3 r4 r5 hWe q0 q1 f0 f1 p0 p1 g0 g1 HRES
    go_wp2
    refine bodyPost_ret (v := .tuple #[.agg #[.bool nb, .slice ao n ca], .agg #[.bool mb, .slice bo k cb], .int .i64 e']) (by simp [results, Tryz.results136, go_sem, z0, z1, z2, z3]) rfl ⟨_, _, _, _, _, _, _, _, _, _, _, rfl, R.out.1, R.out.2.1, HAL.out, ?_⟩
    show Below _ _ _; rw [HBe.out]; exact R.out.2.2
  · have hs0 : (sgn3 m 0 == 0) = false := by
      have : sgn3 m 0 ≠ 0 := fun h => h0 (sgn3_zero h)
      simpa using this
    go_wp2_with fail
    refine (sign_any _ _ _ _ _ _ gb).mono ?_
    rintro r w2 ⟨rfl, hw2⟩
    have ga := ga.below hw2
    have gb := gb.below hw2
    have bx := bx.below hw2
    have bY := bY.below hw2
    have c1 := c1.below hw2
    have c2 := c2.below hw2
    obtain ⟨hB2, hB2'⟩ := bnext hB1 (by omega) hw2
    have hz2 := hw2.size
    clear k0 k1 k2 l0 l1 l2 hB1 hw2 hs0 h0
    have k0 := bx.c1
    have k1 := bx.c2
    have k2 := bx.c3
    have l0 := bY.c1
    have l1 := bY.c2
    have l2 := bY.c3
    by_cases h0 : m' = 0
    · have hs0 : (sgn3 m' 0 == 0) = true := by simp [sgn3, h0]
      have hAl := Aligned.zero2 (e' := e') hd h0
      have HAL := Lib.hid hAl; clear hAl h0
      go_upto_region 4 with fail
      have q0 := c1.c0
      have q1 := c1.c1
      have f0 := c1.f 0
      have f1 := c1.f 1
      have p0 := c2.c0
      have p1 := c2.c1
      have g0 := c2.f 0
      have g1 := c2.f 1
      have hres := two_bigs c1 c2 (by omega) (B := B) (by omega) (by omega) ga gb hB2
      have HRES := Lib.hid hres; clear hres
      go_region
      obtain ⟨r1, r2, r3, r4, r5⟩ := HRES.out
      generalize hWe : World.drew _ = V at r1 r2 r3 r4 r5 ⊢
      have z0 := r4.c0
      have z1 := r4.c1
      have z2 := r5.c0
      have z3 := r5.c1
      have R := Lib.hid (And.intro r1 (And.intro r2 r3))
      clear r1 r2 r3 r4 r5 hWe q0 q1 f0 f1 p0 p1 g0 g1 HRES
      go_wp2
      refine bodyPost_ret (v := .tuple #[.agg #[.bool nb, .slice ao n ca], .agg #[.bool mb, .slice bo k cb], .int .i64 e]) (by simp [results, Tryz.results136, go_sem, z0, z1, z2, z3]) rfl ⟨_, _, _, _, _, _, _, _, _, _, _, rfl, R.out.1, R.out.2.1, HAL.out, ?_⟩
      show Below _ _ _; rw [HBe.out]; exact R.out.2.2
    · have hs0 : (sgn3 m' 0 == 0) = false := by
        have : sgn3 m' 0 ≠ 0 := fun h => h0 (sgn3_zero h)
        simpa using this
      clear h0
      rcases Int.lt_trichotomy e e' with hlt | heq | hgt
      · have hnot : ¬ e > e' := by omega
        have hAl := Aligned.mk2 hd hd' (by omega)
        have HAL := Lib.hid hAl; clear hAl
        obtain ⟨sh, hsh⟩ : ∃ sh : Nat, (e' - e).toNat = sh := ⟨_, rfl⟩
        have hsh2 : e' - e = (sh : Int) := by omega
        rw [hsh] at HAL
        go_wp2_with fail
        refine (shift_left _ _ _ _ _ _ _ gb (by omega)).mono ?_
        rintro r w3 ⟨yn, yo, yk, yc, rfl, hr, hw3⟩
        have ga := ga.below hw3
        have gy := bn_bg_of hr (by have := HAL.out.2.2.2.2.2; omega)
        have bx := bx.below hw3
        have bY := bY.below hw3
        have c1 := c1.below hw3
        have c2 := c2.below hw3
        obtain ⟨hB3, hB3'⟩ := bnext hB2 (by omega) hw3
        have hz3 := hw3.size
        clear k0 k1 k2 l0 l1 l2 hB2 hw3 hr gb
        have q0 := c2.c0
        have q1 := c2.c1
        have f0 := c2.f 0
        have f1 := c2.f 1
        go_upto_region 10 with fail
        have o1 := only_set2 w3 (B + 1 + 1 + 1) (.bool yn) (.slice yo yk yc)
        have ga := ga.only_bx c2 o1
        have gy := gy.only_bx c2 o1
        have bx := bx.only o1 (by omega)
        have bY := bY.only o1 (by omega)
        have c1 := c1.only o1 (by omega)
        have c2 := c2.stored yn yo yk yc
        have hB4 := hB3.trans (o1.below (B := B) (by omega))
        clear q0 q1 f0 f1 o1 hB3
        generalize (w3.setCell ⟨B + 1 + 1 + 1, 0, none⟩ (.bool yn)).setCell ⟨B + 1 + 1 + 1, 1, none⟩ (.slice yo yk yc) = w4 at *
        have k0 := bx.c1
        have k1 := bx.c2
        have k2 := bx.c3
        have l0 := bY.c1
        have l1 := bY.c2
        have l2 := bY.c3
        have q0 := c1.c0
        have q1 := c1.c1
        have f0 := c1.f 0
        have f1 := c1.f 1
        have p0 := c2.c0
        have p1 := c2.c1
        have g0 := c2.f 0
        have g1 := c2.f 1
        have hres := two_bigs c1 c2 (by omega) (B := B) (by omega) (by omega) ga gy hB4
        have HRES := Lib.hid hres; clear hres
        go_region
        obtain ⟨r1, r2, r3, r4, r5⟩ := HRES.out
        generalize hWe : World.drew _ = V at r1 r2 r3 r4 r5 ⊢
        have z0 := r4.c0
        have z1 := r4.c1
        have z2 := r5.c0
        have z3 := r5.c1
        have R := Lib.hid (And.intro r1 (And.intro r2 r3))
        clear r1 r2 r3 r4 r5 hWe q0 q1 f0 f1 p0 p1 g0 g1 HRES
        go_wp2
        refine bodyPost_ret (v := .tuple #[.agg #[.bool nb, .slice ao n ca], .agg #[.bool yn, .slice yo yk yc], .int .i64 e]) (by simp [results, Tryz.results136, go_sem, z0, z1, z2, z3]) rfl ⟨_, _, _, _, _, _, _, _, _, _, _, rfl, R.out.1, R.out.2.1, HAL.out, ?_⟩
        show Below _ _ _; rw [HBe.out]; exact R.out.2.2
      · subst heq
        have hAl := Aligned.mk2 hd hd' (Int.le_refl _)
        rw [show (e - e).toNat = 0 by omega, Int.pow_zero, Int.mul_one] at hAl
        have HAL := Lib.hid hAl; clear hAl
        go_upto_region 11 with fail
        have q0 := c1.c0
        have q1 := c1.c1
        have f0 := c1.f 0
        have f1 := c1.f 1
        have p0 := c2.c0
        have p1 := c2.c1
        have g0 := c2.f 0
        have g1 := c2.f 1
        have hres := two_bigs c1 c2 (by omega) (B := B) (by omega) (by omega) ga gb hB2
        have HRES := Lib.hid hres; clear hres
        go_region
        obtain ⟨r1, r2, r3, r4, r5⟩ := HRES.out
        generalize hWe : World.drew _ = V at r1 r2 r3 r4 r5 ⊢
        have z0 := r4.c0
        have z1 := r4.c1
        have z2 := r5.c0
        have z3 := r5.c1
        have R := Lib.hid (And.intro r1 (And.intro r2 r3))
        clear r1 r2 r3 r4 r5 hWe q0 q1 f0 f1 p0 p1 g0 g1 HRES
        go_wp2
        refine bodyPost_ret (v := .tuple #[.agg #[.bool nb, .slice ao n ca], .agg #[.bool mb, .slice bo k cb], .int .i64 e]) (by simp [results, Tryz.results136, go_sem, z0, z1, z2, z3]) rfl ⟨_, _, _, _, _, _, _, _, _, _, _, rfl, R.out.1, R.out.2.1, HAL.out, ?_⟩
        show Below _ _ _; rw [HBe.out]; exact R.out.2.2
      · have hAl := Aligned.mk1 hd hd' (by omega)
        have HAL := Lib.hid hAl; clear hAl
        obtain ⟨sh, hsh⟩ : ∃ sh : Nat, (e - e').toNat = sh := ⟨_, rfl⟩
        have hsh2 : e - e' = (sh : Int) := by omega
        rw [hsh] at HAL
        go_wp2_with fail
        refine (shift_left _ _ _ _ _ _ _ ga (by omega)).mono ?_
        rintro r w3 ⟨yn, yo, yk, yc, rfl, hr, hw3⟩
        have gb := gb.below hw3
        have gy := bn_bg_of hr (by have := HAL.out.2.2.2.2.1; omega)
        have bx := bx.below hw3
        have bY := bY.below hw3
        have c1 := c1.below hw3
        have c2 := c2.below hw3
        obtain ⟨hB3, hB3'⟩ := bnext hB2 (by omega) hw3
        have hz3 := hw3.size
        clear k0 k1 k2 l0 l1 l2 hB2 hw3 hr ga
        have q0 := c1.c0
        have q1 := c1.c1
        have f0 := c1.f 0
        have f1 := c1.f 1
        go_upto_region 7 with fail
        have o1 := only_set2 w3 (B + 1 + 1) (.bool yn) (.slice yo yk yc)
        have gb := gb.only_bx c1 o1
        have gy := gy.only_bx c1 o1
        have bx := bx.only o1 (by omega)
        have bY := bY.only o1 (by omega)
        have c2 := c2.only o1 (by omega)
        have c1 := c1.stored yn yo yk yc
        have hB4 := hB3.trans (o1.below (B := B) (by omega))
        clear q0 q1 f0 f1 o1 hB3
        generalize (w3.setCell ⟨B + 1 + 1, 0, none⟩ (.bool yn)).setCell ⟨B + 1 + 1, 1, none⟩ (.slice yo yk yc) = w4 at *
        have k0 := bx.c1
        have k1 := bx.c2
        have k2 := bx.c3
        have l0 := bY.c1
        have l1 := bY.c2
        have l2 := bY.c3
        have q0 := c1.c0
        have q1 := c1.c1
        have f0 := c1.f 0
        have f1 := c1.f 1
        have p0 := c2.c0
        have p1 := c2.c1
        have g0 := c2.f 0
        have g1 := c2.f 1
        have hres := two_bigs c1 c2 (by omega) (B := B) (by omega) (by omega) gy gb hB4
        have HRES := Lib.hid hres; clear hres
        go_region
        obtain ⟨r1, r2, r3, r4, r5⟩ := HRES.out
        generalize hWe : World.drew _ = V at r1 r2 r3 r4 r5 ⊢
        have z0 := r4.c0
        have z1 := r4.c1
        have z2 := r5.c0
        have z3 := r5.c1
        have R := Lib.hid (And.intro r1 (And.intro r2 r3))
        clear r1 r2 r3 r4 r5 hWe q0 q1 f0 f1 p0 p1 g0 g1 HRES
        go_wp2
        refine bodyPost_ret (v := .tuple #[.agg #[.bool yn, .slice yo yk yc], .agg #[.bool mb, .slice bo k cb], .int .i64 e']) (by simp [results, Tryz.results136, go_sem, z0, z1, z2, z3]) rfl ⟨_, _, _, _, _, _, _, _, _, _, _, rfl, R.out.1, R.out.2.1, HAL.out, ?_⟩
        show Below _ _ _; rw [HBe.out]; exact R.out.2.2
end Go.Proofs.YtjohpdobnedilaaGreatDoor

/- What dyad.Add and Sub do. -/
namespace Go.Proofs.YtjohpdobnedilaaGreatDoor
open Go.RowKit

theorem boxes_two_d (w : World) (bb nb : Bool) (ao : Option Addr) (n cap : Nat) (e : Int) (cb mb : Bool) (bo : Option Addr) (m cap' : Nat) (f : Int) :
    ∃ W, W = (w.alloc (.cells #[.bool bb, .bool nb, .slice ao n cap, .int .i64 e] 39)).alloc (.cells #[.bool cb, .bool mb, .slice bo m cap', .int .i64 f] 39) ∧ Below w.heap.size w W ∧
      DBox W w.heap.size bb nb ao n cap e ∧ DBox W (w.heap.size + 1) cb mb bo m cap' f ∧ w.heap.size + 2 ≤ W.heap.size := by
  refine ⟨_, rfl, ((Below.refl _ w).alloc (Nat.le_refl _) _).alloc (by simp) _, ?_, ?_, by simp⟩
  · exact (DBox.new w bb nb ao n cap e).below ((Below.refl _ _).alloc (Nat.le_refl _) _)
  · have := DBox.new (w.alloc (.cells #[.bool bb, .bool nb, .slice ao n cap, .int .i64 e] 39)) cb mb bo m cap' f
    simpa using this

theorem boxes_bb (w : World) (nb : Bool) (ao : Option Addr) (n ca : Nat) (mb : Bool) (bo : Option Addr) (m cb : Nat) :
    ∃ W, W = (w.alloc (.cells #[.bool nb, .slice ao n ca] 37)).alloc (.cells #[.bool mb, .slice bo m cb] 37) ∧ Below w.heap.size w W ∧ Box W w.heap.size nb ao n ca ∧ Box W (w.heap.size + 1) mb bo m cb := by
  refine ⟨_, rfl, ((Below.refl _ w).alloc (Nat.le_refl _) _).alloc (by simp) _, ?_, ?_⟩
  · exact (Box.new w nb ao n ca).below ((Below.refl _ _).alloc (Nat.le_refl _) _)
  · have := Box.new (w.alloc (.cells #[.bool nb, .slice ao n ca] 37)) mb bo m cb
    simpa using this

theorem dn_some {w : World} {bb nb : Bool} {ao : Option Addr} {n ca : Nat} {f : Int} {m e : Int} (h : Dn w (.agg #[.bool bb, .bool nb, .slice ao n ca, .int .i64 f]) (some (m, e))) : bb = false ∧ f = e ∧ Bn w nb ao n ca m := by
  obtain ⟨_, nb', ao', n', ca', h1, h2⟩ := h
  simp only [Value.agg.injEq, Array.mk.injEq, List.cons.injEq, Value.bool.injEq, Value.slice.injEq, Value.int.injEq, and_true, true_and] at h1
  obtain ⟨rfl, rfl, ⟨rfl, rfl, rfl⟩, rfl⟩ := h1
  exact ⟨rfl, rfl, h2⟩
theorem dn_none {w : World} {bb nb : Bool} {ao : Option Addr} {n ca : Nat} {f : Int} (h : Dn w (.agg #[.bool bb, .bool nb, .slice ao n ca, .int .i64 f]) none) : bb = true := by
  obtain ⟨_, nb', ao', n', ca', h1, h2⟩ := h
  simp only [Value.agg.injEq, Array.mk.injEq, List.cons.injEq, Value.bool.injEq, Value.slice.injEq, Value.int.injEq, and_true, true_and] at h1
  exact h1.1
theorem Dn.parts {w : World} {v : Value} {d : Dy} (h : Dn w v d) : ∃ bb nb ao n ca f, v = .agg #[.bool bb, .bool nb, .slice ao n ca, .int .i64 f] := by
  obtain ⟨_, nb', ao', n', ca', h1, h2⟩ := h
  exact ⟨_, _, _, _, _, _, h1⟩
theorem Dn.drew {w : World} {v : Value} {d : Dy} (h : Dn w v d) : Dn w.drew v d := h.ext (Below.refl _ _).drew
theorem Dg.drew {w : World} {v : Value} {d : Dy} (h : Dg w v d) : Dg w.drew v d := h.ext (Below.refl _ _).drew
theorem Table.drew {w : World} (h : Table w) : Table w.drew := h.below (Below.refl _ _).drew
theorem DBox.drew {w : World} {g : Nat} {bb nb : Bool} {ao : Option Addr} {n ca : Nat} {e : Int} (h : DBox w g bb nb ao n ca e) : DBox w.drew g bb nb ao n ca e := h

/-- two dyads stored in their places -/
theorem two_dyads {w w0 : World} {g h B : Nat} {bb nb cc mb xb xn yb yn : Bool} {ao bo xo yo : Option Addr} {n m ca cb xk xc yk yc : Nat} {e f xe ye : Int} {d d' : Dy} (hg : DBox w g bb nb ao n ca e) (hh : DBox w h cc mb bo m cb f) (hne : g ≠ h) (hBg : B ≤ g) (hBh : B ≤ h)
    (hx : Dn w (.agg #[.bool xb, .bool xn, .slice xo xk xc, .int .i64 xe]) d) (hy : Dn w (.agg #[.bool yb, .bool yn, .slice yo yk yc, .int .i64 ye]) d') (hb : Below B w0 w) :
    ∃ W, W = ((((((((w.setCell ⟨g, 0, none⟩ (.bool xb)).setCell ⟨g, 1, none⟩ (.bool xn)).setCell ⟨g, 2, none⟩ (.slice xo xk xc)).setCell ⟨g, 3, none⟩ (.int .i64 xe)).setCell ⟨h, 0, none⟩ (.bool yb)).setCell ⟨h, 1, none⟩ (.bool yn)).setCell ⟨h, 2, none⟩ (.slice yo yk yc)).setCell ⟨h, 3, none⟩ (.int .i64 ye)) ∧
      Dn W (.agg #[.bool xb, .bool xn, .slice xo xk xc, .int .i64 xe]) d ∧ Dn W (.agg #[.bool yb, .bool yn, .slice yo yk yc, .int .i64 ye]) d' ∧ Below B w0 W ∧
      DBox W g xb xn xo xk xc xe ∧ DBox W h yb yn yo yk yc ye ∧ (∀ k, k ≠ g → k ≠ h → W.heap[k]? = w.heap[k]?) ∧ W.heap.size = w.heap.size := by
  refine ⟨_, rfl, ?_⟩
  have o1 := only_set4 w g (.bool xb) (.bool xn) (.slice xo xk xc) (.int .i64 xe)
  have g1 := hg.stored xb xn xo xk xc xe
  have h1 := hh.only o1 hne.symm
  have x1 := hx.only_dbox hg o1
  have y1 := hy.only_dbox hg o1
  generalize (((w.setCell ⟨g, 0, none⟩ (.bool xb)).setCell ⟨g, 1, none⟩ (.bool xn)).setCell ⟨g, 2, none⟩ (.slice xo xk xc)).setCell ⟨g, 3, none⟩ (.int .i64 xe) = w1 at *
  have o2 := only_set4 w1 h (.bool yb) (.bool yn) (.slice yo yk yc) (.int .i64 ye)
  exact ⟨x1.only_dbox h1 o2, y1.only_dbox h1 o2, (hb.trans (o1.below hBg)).trans (o2.below hBh), g1.only o2 hne, h1.stored yb yn yo yk yc ye, fun k hk1 hk2 => by rw [o2.block k hk2, o1.block k hk1], by rw [o2.size, o1.size]⟩

theorem Dg.only_dbox {w w' : World} {g : Nat} {bb nb : Bool} {ao : Option Addr} {n cap : Nat} {f : Int} {v : Value} {d : Dy} (h : Dg w v d) (hx : DBox w g bb nb ao n cap f) (ho : Only g w w') : Dg w' v d := by
  obtain ⟨cc, mb, bo, m, cb, x, f', h1, h2, h3⟩ := h
  exact ⟨cc, mb, bo, m, cb, x, f', h1, h2.only_dbox hx ho, h3⟩
theorem dmk_neg (x e : Int) : dneg (dmk x e) = dmk (-x) e := by
  by_cases h : x = 0
  · subst h; simp [dmk, dneg]
  · unfold dmk
    rw [if_neg h, if_neg (show ¬ -x = 0 by omega), Int.natAbs_neg]
    obtain ⟨m, h1, h2, h3⟩ := odd_part h
    have e1 : -x / 2 ^ tzf x.natAbs = -m := by
      conv => lhs; lhs; rw [h1]
      rw [← Int.neg_mul, Int.mul_ediv_cancel _ (Int.ne_of_gt (two_pos _))]
    rw [e1, h3]
    split <;> rfl

theorem dadd_al {p q : Int × Int} {X Y E : Int} (h : Aligned (some p) (some q) X Y E) : dmk (X + Y) E = dadd (some p) (some q) := by
  obtain ⟨h0, h1, h2, h3, _⟩ := h
  show _ = dmk (sc (some p) + sc (some q)) (-65536)
  rw [h2, h3, ← Int.add_mul, dmk_shift]
  congr 1; omega

set_option maxRecDepth 100000 in
set_option maxHeartbeats 4000000 in
theorem dadd_any (u v : Value) (d d' : Dy) (w : World) (hu : Dg w u d) (hv : Dg w v d') (hT : Table w) :
    Calls Tryz.prog 58 #[u, v] w fun e w' => ∃ r, e = .returned r ∧ Dn w' r (dadd d d') ∧ Ext w w' := by
  have hu0 := hu
  have hv0 := hv
  obtain ⟨ub, un, uo, uk, uc, _, uf, rfl, -⟩ := hu0
  obtain ⟨vb, vn, vo, vk, vc, _, vf, rfl, -⟩ := hv0
  go_enter Tryz.func58, Tryz.ntmps58
  go_upto_region 1 with fail
  obtain ⟨W, hW, hB, hbx, hby, hrx, hz⟩ := boxes_ddd w ub un uo uk uc uf vb vn vo vk vc vf
  rw [← hW]
  clear hW
  have hu := hu.ext hB
  have hv := hv.ext hB
  have HT0 := Lib.hid hT
  have hT := hT.below hB
  generalize hBe : w.heap.size = B at *
  have HBe := Lib.hid hBe; clear hBe
  go_cut [] from 8 (fun wx => ∃ xb xn xo xk xc xe yb yn yo yk yc ye, Dn wx (.agg #[.bool xb, .bool xn, .slice xo xk xc, .int .i64 xe]) d ∧ Dn wx (.agg #[.bool yb, .bool yn, .slice yo yk yc, .int .i64 ye]) d' ∧
    DBox wx B xb xn xo xk xc xe ∧ DBox wx (B + 1) yb yn yo yk yc ye ∧ Below B w wx ∧ (∀ k, B + 1 < k → k < W.heap.size → wx.heap[k]? = W.heap[k]?) ∧ W.heap.size ≤ wx.heap.size)
  case first =>
    have k0 := hbx.c0
    have k1 := hbx.c1
    have k2 := hbx.c2
    have k3 := hbx.c3
    have l0 := hby.c0
    have l1 := hby.c1
    have l2 := hby.c2
    have l3 := hby.c3
    go_region_with (first
      | (go_at_call 97; refine (dnormal_any _ _ _ (by exact hu.ext (by exact (Below.refl _ _).drew)) (by exact hT.below (by exact (Below.refl _ _).drew))).mono ?_; rintro e w1 ⟨r1, rfl, hr1, hw1⟩; have ex1 : Ext W w1 := Ext.trans (by exact (Below.refl _ _).drew) hw1; obtain ⟨xb, xn, xo, xk, xc, xe, rfl⟩ := hr1.parts; have fb := hby.ext ex1; have h0 := fb.c0; have h1 := fb.c1; have h2 := fb.c2; have h3 := fb.c3)
      | (go_at_call 97; refine (dnormal_any _ _ _ (by exact hv.ext ex1) (by exact hT.below ex1)).mono ?_; rintro e w2 ⟨r2, rfl, hr2, hw2⟩; have ex2 : Ext W w2 := Ext.trans ex1 hw2; obtain ⟨yb, yn, yo, yk, yc, ye, rfl⟩ := hr2.parts; have hr1 := hr1.ext hw2; clear h0 h1 h2 h3; have fa := hbx.ext ex2; have fb := hby.ext ex2; have a0 := fa.c0; have a1 := fa.c1; have a2 := fa.c2; have a3 := fa.c3; have b0 := fb.c0; have b1 := fb.c1; have b2 := fb.c2; have b3 := fb.c3; have g0 := fa.f 0; have g1 := fa.f 1; have g2 := fa.f 2; have g3 := fa.f 3; have h0 := fb.f 0; have h1 := fb.f 1; have h2 := fb.f 2; have h3 := fb.f 3))
    all_goals
      go_wp2
      go_meet
    all_goals
      clear a0 a1 a2 a3 b0 b1 b2 b3 g0 g1 g2 g3 h0 h1 h2 h3 k0 k1 k2 k3 l0 l1 l2 l3
      obtain ⟨hB2, hB2'⟩ := bnext hB (by omega) ex2
      obtain ⟨Z, hZ, z1, z2, z3, z4, z5, z6, z7⟩ := two_dyads fa fb (by omega) (Nat.le_refl B) (Nat.le_succ B) hr1 hr2 hB2
      rw [← hZ]
      exact ⟨_, _, _, _, _, _, _, _, _, _, _, _, z1, z2, z4, z5, z3, fun k hk1 hk2 => by rw [z6 k (by omega) (by omega)]; exact Below.block ex2 k hk2, by rw [z7]; exact Below.size ex2⟩
  case rest =>
    obtain ⟨xb, xn, xo, xk, xc, xe, yb, yn, yo, yk, yc, ye, hx, hy, bx, bY, hB1, hkeep, hzc⟩ := hcut
    have hT1 := (show Table w from HT0.out).below (w' := wc) (by rw [HBe.out]; exact hB1)
    have hrx : DBox wc (B + 1 + 1) false false none 0 0 0 := by
      have := hrx
      unfold DBox at this ⊢
      rw [hkeep _ (by omega) (by omega)]; exact this
    have HT := Lib.hid hT1
    clear hT1 hbx hby hu hv hT hB hkeep
    have k0 := bx.c0
    have k1 := bx.c1
    have k2 := bx.c2
    have k3 := bx.c3
    have l0 := bY.c0
    have l1 := bY.c1
    have l2 := bY.c2
    have l3 := bY.c3
    cases d with
    | none =>
      obtain rfl := dn_none hx
      go_wp2_with fail
      refine (bad_any _).mono ?_
      rintro e w1 ⟨rfl, hw1⟩
      have c1 := hrx.below hw1
      obtain ⟨hB2, hB2'⟩ := bnext hB1 (by omega) hw1
      have q0 := c1.c0
      have q1 := c1.c1
      have q2 := c1.c2
      have q3 := c1.c3
      have f0 := c1.f 0
      have f1 := c1.f 1
      have f2 := c1.f 2
      have f3 := c1.f 3
      have hres := dn_stored c1 (dn_bad w1) w hB2 (by omega)
      have z3 := c1.stored true false none 0 0 0
      have z0 := z3.c0
      have z1 := z3.c1
      have z2 := z3.c2
      have z4 := z3.c3
      have HRES := Lib.hid hres; clear hres z3
      go_wp2
      refine bodyPost_ret (v := .agg #[.bool true, .bool false, .slice none 0 0, .int .i64 0]) (by simp [results, Tryz.results58, go_sem, z0, z1, z2, z4]) rfl ⟨_, rfl, ?_, ?_⟩
      · exact HRES.out.1
      · show Below _ _ _; rw [HBe.out]; exact HRES.out.2
    | some p =>
      obtain ⟨m, f⟩ := p
      obtain ⟨rfl, rfl, hm⟩ := dn_some hx
      cases d' with
      | none =>
        obtain rfl := dn_none hy
        go_wp2_with fail
        refine (bad_any _).mono ?_
        rintro e w1 ⟨rfl, hw1⟩
        have c1 := hrx.below hw1
        obtain ⟨hB2, hB2'⟩ := bnext hB1 (by omega) hw1
        have q0 := c1.c0
        have q1 := c1.c1
        have q2 := c1.c2
        have q3 := c1.c3
        have f0 := c1.f 0
        have f1 := c1.f 1
        have f2 := c1.f 2
        have f3 := c1.f 3
        have hres := dn_stored c1 (dn_bad w1) w hB2 (by omega)
        have z3 := c1.stored true false none 0 0 0
        have z0 := z3.c0
        have z1 := z3.c1
        have z2 := z3.c2
        have z4 := z3.c3
        have HRES := Lib.hid hres; clear hres z3
        go_wp2
        refine bodyPost_ret (v := .agg #[.bool true, .bool false, .slice none 0 0, .int .i64 0]) (by simp [results, Tryz.results58, go_sem, z0, z1, z2, z4]) rfl ⟨_, rfl, ?_, ?_⟩
        · exact HRES.out.1
        · show Below _ _ _; rw [HBe.out]; exact HRES.out.2
      | some q =>
        obtain ⟨m', f'⟩ := q
        obtain ⟨rfl, rfl, hm'⟩ := dn_some hy
        have hnx := hx.1
        have hny := hy.1
        clear hx hy
        go_wp2_with fail
        refine (aligned_any _ _ _ _ _ _ _ _ _ _ _ _ _ hm hm' hnx hny).mono ?_
        rintro e w1 ⟨an, ao', ak, ac, bn, bo', bk, bc, X, Y, E, rfl, hX, hY, hAl, hw1⟩
        have c1 := hrx.below hw1
        have HT := Lib.hid (HT.out.below hw1)
        obtain ⟨hB2, hB2'⟩ := bnext hB1 (by omega) hw1
        have hz1 := hw1.size
        have hE0 := hAl.1
        have hE1 := hAl.2.1
        have HAL := Lib.hid hAl
        clear k0 k1 k2 k3 l0 l1 l2 l3 hm hm' hnx hny hAl hrx hB1 bx bY hw1
        go_upto_region 5 with fail
        obtain ⟨V, hV, hv, e1, e2⟩ := boxes_bb w1 an ao' ak ac bn bo' bk bc
        rw [← hV]
        clear hV
        have hX := hX.below hv
        have hY := hY.below hv
        have c1 := c1.below hv
        have HT := Lib.hid (HT.out.below hv)
        obtain ⟨hB2, hB2'⟩ := bnext hB2 (by omega) hv
        have hz2 := hv.size
        have k0 := e1.c0
        have k1 := e1.c1
        have l0 := e2.c0
        have l1 := e2.c1
        clear hv
        generalize w1.heap.size = D at *
        go_wp2_with fail
        refine (add_any _ _ _ _ _ _ _ _ _ _ _ hX hY).mono ?_
        rintro e w2 ⟨nr, ro, l, cr, rfl, hr, hw2⟩
        have hr := bn_bg_of hr (by
          have a := blen_add X Y
          have b := HAL.out.2.2.2.2
          omega)
        have c1 := c1.below hw2
        have HT := Lib.hid (HT.out.below hw2)
        obtain ⟨hB3, hB3'⟩ := bnext hB2 (by omega) hw2
        have hz3 := hw2.size
        clear k0 k1 l0 l1 hw2
        go_wp2_with fail
        refine (dreduce_any _ _ _ _ _ _ _ hr (by omega) (by omega) HT.out).mono ?_
        rintro e w3 ⟨r, rfl, hr2, hw3⟩
        rw [dadd_al HAL.out] at hr2
        have c1 := c1.below hw3
        obtain ⟨hB4, hB4'⟩ := bnext hB3 (by omega) hw3
        obtain ⟨rb, rn, ro2, rk, rc, re, rfl⟩ := hr2.parts
        have q0 := c1.c0
        have q1 := c1.c1
        have q2 := c1.c2
        have q3 := c1.c3
        have f0 := c1.f 0
        have f1 := c1.f 1
        have f2 := c1.f 2
        have f3 := c1.f 3
        have hres := dn_stored c1 hr2 w hB4 (by omega)
        have z3 := c1.stored rb rn ro2 rk rc re
        have z0 := z3.c0
        have z1 := z3.c1
        have z2 := z3.c2
        have z4 := z3.c3
        have HRES := Lib.hid hres; clear hres z3
        go_wp2
        refine bodyPost_ret (v := .agg #[.bool rb, .bool rn, .slice ro2 rk rc, .int .i64 re]) (by simp [results, Tryz.results58, go_sem, z0, z1, z2, z4]) rfl ⟨_, rfl, ?_, ?_⟩
        · exact HRES.out.1
        · show Below _ _ _; rw [HBe.out]; exact HRES.out.2

theorem dg_neg {w : World} {bb nb : Bool} {ao : Option Addr} {n ca : Nat} {f : Int} {d : Dy} (h : Dg w (.agg #[.bool bb, .bool nb, .slice ao n ca, .int .i64 f]) d) : Dg w (.agg #[.bool bb, .bool (!nb), .slice ao n ca, .int .i64 f]) (dneg d) := by
  obtain ⟨cc, mb, bo, m, cb, x, f', h1, h2, h3, h4, h5⟩ := h
  simp only [Value.agg.injEq, Array.mk.injEq, List.cons.injEq, Value.bool.injEq, Value.slice.injEq, Value.int.injEq, and_true, true_and] at h1
  obtain ⟨rfl, rfl, ⟨rfl, rfl, rfl⟩, rfl⟩ := h1
  refine ⟨_, _, _, _, _, -x, _, rfl, h2.not, h3, h4, ?_⟩
  rw [h5]
  cases bb with
  | true => rfl
  | false => exact dmk_neg x f

/-- the difference -/
def dsub (d d' : Dy) : Dy := dadd d (dneg d')

set_option maxRecDepth 100000 in
set_option maxHeartbeats 4000000 in
theorem dsub_any (u v : Value) (d d' : Dy) (w : World) (hu : Dg w u d) (hv : Dg w v d') (hT : Table w) :
    Calls Tryz.prog 134 #[u, v] w fun e w' => ∃ r, e = .returned r ∧ Dn w' r (dsub d d') ∧ Ext w w' := by
  have hu0 := hu
  have hv0 := hv
  obtain ⟨ub, un, uo, uk, uc, _, uf, rfl, -⟩ := hu0
  obtain ⟨vb, vn, vo, vk, vc, _, vf, rfl, -⟩ := hv0
  go_enter Tryz.func134, Tryz.ntmps134
  go_upto_region 1 with fail
  obtain ⟨W, hW, hB, hbx, hby, hrx, hz⟩ := boxes_ddd w ub un uo uk uc uf vb vn vo vk vc vf
  rw [← hW]
  clear hW
  have hu := hu.ext hB
  have hv := dg_neg (hv.ext hB)
  generalize hBe : w.heap.size = B at *
  have HBe := Lib.hid hBe; clear hBe
  have l1 := hby.c1
  have g1 := hby.f 1
  go_upto_region 2 with fail
  have ho := only_set1 W (B + 1) 1 (.bool (!vn))
  have bx := hbx.only ho (by omega)
  have bY := hby.stored1 (!vn)
  have c1 := hrx.only ho (by omega)
  have hu1 := hu.only_dbox hby ho
  have hv1 := hv.only_dbox hby ho
  have hB1 := hB.trans (ho.below (B := B) (by omega))
  have hT1 := hT.below (by rw [HBe.out]; exact hB1)
  have hz1 : B + 3 ≤ (W.setCell ⟨B + 1, 1, none⟩ (.bool (!vn))).heap.size := by rw [ho.size]; exact hz
  clear hu hv hbx hby hrx hB l1 g1 hT ho
  generalize W.setCell ⟨B + 1, 1, none⟩ (.bool (!vn)) = W1 at *
  have k0 := bx.c0
  have k1 := bx.c1
  have k2 := bx.c2
  have k3 := bx.c3
  have l0 := bY.c0
  have l1 := bY.c1
  have l2 := bY.c2
  have l3 := bY.c3
  have HT := Lib.hid hT1; clear hT1
  go_wp2_with fail
  refine (dadd_any _ _ _ _ _ hu1 hv1 HT.out).mono ?_
  rintro e w3 ⟨r, rfl, hr2, hw3⟩
  have c1 := c1.below hw3
  obtain ⟨hB4, hB4'⟩ := bnext hB1 (by omega) hw3
  obtain ⟨rb, rn, ro2, rk, rc, re, rfl⟩ := hr2.parts
  have q0 := c1.c0
  have q1 := c1.c1
  have q2 := c1.c2
  have q3 := c1.c3
  have f0 := c1.f 0
  have f1 := c1.f 1
  have f2 := c1.f 2
  have f3 := c1.f 3
  have hres := dn_stored c1 hr2 w hB4 (by omega)
  have z3 := c1.stored rb rn ro2 rk rc re
  have z0 := z3.c0
  have z1 := z3.c1
  have z2 := z3.c2
  have z4 := z3.c3
  have HRES := Lib.hid hres; clear hres z3
  go_wp2
  refine bodyPost_ret (v := .agg #[.bool rb, .bool rn, .slice ro2 rk rc, .int .i64 re]) (by simp [results, Tryz.results134, go_sem, z0, z1, z2, z4]) rfl ⟨_, rfl, ?_, ?_⟩
  · exact HRES.out.1
  · show Below _ _ _; rw [HBe.out]; exact HRES.out.2
end Go.Proofs.YtjohpdobnedilaaGreatDoor

/- What dyad.Neg, Abs, Sign, top, Scale, Floor and Log2 do. -/
namespace Go.Proofs.YtjohpdobnedilaaGreatDoor
open Go.RowKit

theorem dm_neg (d : Dy) : dm (dneg d) = -dm d ∧ dx (dneg d) = dx d ∧ (dneg d).isNone = d.isNone := by cases d <;> simp [dneg, dm, dx]
theorem dm_abs (d : Dy) : dm (dabs d) = (dm d).natAbs ∧ dx (dabs d) = dx d ∧ (dabs d).isNone = d.isNone := by cases d <;> simp [dabs, dm, dx]
theorem Dn.get {w : World} {bb nb : Bool} {ao : Option Addr} {n ca : Nat} {f : Int} {d : Dy} (h : Dn w (.agg #[.bool bb, .bool nb, .slice ao n ca, .int .i64 f]) d) : bb = d.isNone ∧ f = dx d ∧ Bn w nb ao n ca (dm d) := by
  obtain ⟨_, nb', ao', n', ca', h1, h2⟩ := h
  simp only [Value.agg.injEq, Array.mk.injEq, List.cons.injEq, Value.bool.injEq, Value.slice.injEq, Value.int.injEq, and_true, true_and] at h1
  obtain ⟨rfl, rfl, ⟨rfl, rfl, rfl⟩, rfl⟩ := h1
  exact ⟨rfl, rfl, h2⟩
theorem Dn.put {w : World} {bb nb : Bool} {ao : Option Addr} {n ca : Nat} {f : Int} {d : Dy} (h0 : Nd d) (h1 : bb = d.isNone) (h2 : f = dx d) (h3 : Bn w nb ao n ca (dm d)) : Dn w (.agg #[.bool bb, .bool nb, .slice ao n ca, .int .i64 f]) d :=
  ⟨h0, nb, ao, n, ca, by rw [h1, h2], h3⟩

/-- where the highest bit ends -/
def dtop (d : Dy) : Int := dx d + blen (dm d).natAbs

set_option maxRecDepth 100000 in
set_option maxHeartbeats 4000000 in
theorem dtop_any (bb nb : Bool) (ao : Option Addr) (n ca : Nat) (m f : Int) (w : World) (h : Bg w nb ao n ca m) (hf0 : -100000000000 ≤ f) (hf1 : f ≤ 100000000000) :
    Calls Tryz.prog 160 #[.agg #[.bool bb, .bool nb, .slice ao n ca, .int .i64 f]] w fun e w' => e = .returned (.int .i64 (f + blen m.natAbs)) ∧ Ext w w' := by
  have hbl := bg_blen h
  have hsm := h.small
  go_enter Tryz.func160, Tryz.ntmps160
  go_upto_region 1 with fail
  obtain ⟨W, hW, hB, hbx, hz⟩ := dbox_new w bb nb ao n ca f
  rw [← hW]
  clear hW
  have h := h.below hB
  have HB := Lib.hid (show Ext w W from hB)
  clear hB
  generalize w.heap.size = B at *
  have k0 := hbx.c0
  have k1 := hbx.c1
  have k2 := hbx.c2
  have k3 := hbx.c3
  have hc : ∀ wx, Ext W wx → wx.cell? ⟨B, 3, none⟩ = some (.int .i64 f) := fun wx h => (hbx.ext h).c3
  have HC := Lib.hid hc; clear hc
  generalize hbb : blen m.natAbs = bl at *
  have HBB := Lib.hid hbb; clear hbb
  have hex : Ext W W.drew := (Below.refl _ _).drew
  have hwr : IntKind.i64.wrap (f + (bl : Int)) = f + (bl : Int) := IntWalk.i64_in _ ⟨by omega, by omega⟩
  go_region_held3 (fun wx => wx.cell? ⟨B, 3, none⟩ = some (.int .i64 f) ∧ wx.cell? ⟨B, 1, none⟩ = some (.bool nb) ∧ wx.cell? ⟨B, 2, none⟩ = some (.slice ao n ca))
    (first | exact ⟨HC.out _ (by assumption), (hbx.ext (by assumption)).c1, (hbx.ext (by assumption)).c2⟩)
    (first
      | (go_at_call 48; refine (bitLenOut_any _ _ _ _ _ _ (by exact h.below (Below.refl _ _).drew)).mono ?_; rintro e w1 ⟨rfl, hw1⟩; have ex1 : Ext W w1 := hex.trans hw1; rw [HBB.out]))
  go_wp2
  go_ret
  exact ⟨by rw [HBB.out]; rfl, HB.out.trans ex1⟩
end Go.Proofs.YtjohpdobnedilaaGreatDoor
