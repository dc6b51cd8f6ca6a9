import Derived.Test.YtapcecjbmcoliaaGreatDoorACauU22
namespace Go.Proofs.YtapcecjbmcoliaaGreatDoor
open Go.RowKit

theorem sc_some (m e : Int) : sc (some (m, e)) = m * 2 ^ (e + 65536).toNat := rfl

theorem boxes_al (w : World) (bb nb : Bool) (ao : Option Addr) (n cap : Nat) (e : Int) (cb mb : Bool) (bo : Option Addr) (m cap' : Nat) (f : Int) :
    ∃ W, W = (((w.alloc (.cells #[.bool bb, .bool nb, .slice ao n cap, .int .i64 e] 29)).alloc (.cells #[.bool cb, .bool mb, .slice bo m cap', .int .i64 f] 29)).alloc (.cells #[.bool false, .slice none 0 0] 27)).alloc (.cells #[.bool false, .slice none 0 0] 27) ∧ Below w.heap.size w W ∧
      DBox W w.heap.size bb nb ao n cap e ∧ DBox W (w.heap.size + 1) cb mb bo m cap' f ∧ Box W (w.heap.size + 1 + 1) false none 0 0 ∧ Box W (w.heap.size + 1 + 1 + 1) false none 0 0 ∧ w.heap.size + 4 ≤ W.heap.size := by
  refine ⟨_, rfl, ((((Below.refl _ w).alloc (Nat.le_refl _) _).alloc (by simp) _).alloc (by simp <;> omega) _).alloc (by simp <;> omega) _, ?_, ?_, ?_, ?_, by simp⟩
  · exact (DBox.new w bb nb ao n cap e).below ((((Below.refl _ _).alloc (Nat.le_refl _) _).alloc (by simp) _).alloc (by simp <;> omega) _)
  · have := (DBox.new (w.alloc (.cells #[.bool bb, .bool nb, .slice ao n cap, .int .i64 e] 29)) cb mb bo m cap' f).below (((Below.refl _ _).alloc (Nat.le_refl _) (.cells #[.bool false, .slice none 0 0] 27)).alloc (by simp) (.cells #[.bool false, .slice none 0 0] 27))
    simpa using this
  · have := (Box.new ((w.alloc (.cells #[.bool bb, .bool nb, .slice ao n cap, .int .i64 e] 29)).alloc (.cells #[.bool cb, .bool mb, .slice bo m cap', .int .i64 f] 29)) false none 0 0).below ((Below.refl _ _).alloc (Nat.le_refl _) (.cells #[.bool false, .slice none 0 0] 27))
    simpa using this
  · have := Box.new (((w.alloc (.cells #[.bool bb, .bool nb, .slice ao n cap, .int .i64 e] 29)).alloc (.cells #[.bool cb, .bool mb, .slice bo m cap', .int .i64 f] 29)).alloc (.cells #[.bool false, .slice none 0 0] 27)) false none 0 0
    simpa using this

/-- two integers X, Y of one exponent E, for two dyads -/
def Aligned (d d' : Dy) (X Y E : Int) : Prop := -65536 ≤ E ∧ E ≤ 65536 ∧ sc d = X * 2 ^ (E + 65536).toNat ∧ sc d' = Y * 2 ^ (E + 65536).toNat ∧ blen X.natAbs ≤ 131072 ∧ blen Y.natAbs ≤ 131072

theorem blen_shift {m e f : Int} (h : Nd (some (m, e))) (hf : -65536 ≤ f) (hfe : f ≤ e) : blen (m * 2 ^ (e - f).toNat).natAbs ≤ 131072 := by
  by_cases h0 : m = 0
  · subst h0; simp [blen]
  · rcases h with ⟨h1, _⟩ | ⟨_, h2, h3⟩
    · exact absurd h1 h0
    · rw [natAbs_shift, blen_mul (by omega)]; omega

theorem sc_shift {m e f : Int} (hf : -65536 ≤ f) (hfe : f ≤ e) : sc (some (m, e)) = m * 2 ^ (e - f).toNat * 2 ^ (f + 65536).toNat := by
  rw [sc_some, Int.mul_assoc, ← Int.pow_add]
  congr 2; omega

theorem Aligned.mk1 {m e m' e' : Int} (h : Nd (some (m, e))) (h' : Nd (some (m', e'))) (hle : e' ≤ e) : Aligned (some (m, e)) (some (m', e')) (m * 2 ^ (e - e').toNat) m' e' := by
  have a := nd_blen h
  have b := nd_blen h'
  simp only [dm, dx, Option.getD_some] at a b
  exact ⟨by omega, by omega, sc_shift (by omega) hle, rfl, blen_shift h (by omega) hle, by omega⟩
theorem Aligned.mk2 {m e m' e' : Int} (h : Nd (some (m, e))) (h' : Nd (some (m', e'))) (hle : e ≤ e') : Aligned (some (m, e)) (some (m', e')) m (m' * 2 ^ (e' - e).toNat) e := by
  have a := nd_blen h
  have b := nd_blen h'
  simp only [dm, dx, Option.getD_some] at a b
  exact ⟨by omega, by omega, rfl, sc_shift (by omega) hle, by omega, blen_shift h' (by omega) hle⟩
theorem Aligned.zero1 {m e m' e' : Int} (h' : Nd (some (m', e'))) (h0 : m = 0) : Aligned (some (m, e)) (some (m', e')) m m' e' := by
  have b := nd_blen h'
  simp only [dm, dx, Option.getD_some] at b
  exact ⟨by omega, by omega, by rw [sc_some, h0]; simp, rfl, by rw [h0]; simp [blen], by omega⟩
theorem Aligned.zero2 {m e m' e' : Int} (h : Nd (some (m, e))) (h0 : m' = 0) : Aligned (some (m, e)) (some (m', e')) m m' e := by
  have b := nd_blen h
  simp only [dm, dx, Option.getD_some] at b
  exact ⟨by omega, by omega, rfl, by rw [sc_some, h0]; simp, by omega, by rw [h0]; simp [blen]⟩

theorem blen_add (x y : Int) : blen (x + y).natAbs ≤ max (blen x.natAbs) (blen y.natAbs) + 1 := by
  apply blen_le_of_lt
  have a := Nat.lt_of_lt_of_le (blen_lt x.natAbs) (Nat.pow_le_pow_right (show 0 < 2 by omega) (Nat.le_max_left (blen x.natAbs) (blen y.natAbs)))
  have b := Nat.lt_of_lt_of_le (blen_lt y.natAbs) (Nat.pow_le_pow_right (show 0 < 2 by omega) (Nat.le_max_right (blen x.natAbs) (blen y.natAbs)))
  have h := Int.natAbs_add_le x y
  rw [Nat.pow_succ]
  omega
theorem blen_mul_le (x y : Int) : blen (x * y).natAbs ≤ blen x.natAbs + blen y.natAbs := by
  apply blen_le_of_lt
  rw [Int.natAbs_mul, Nat.pow_add]
  have a := blen_lt x.natAbs
  have b := blen_lt y.natAbs
  exact Nat.lt_of_le_of_lt (Nat.mul_le_mul_right _ (Nat.le_of_lt a)) (Nat.mul_lt_mul_of_pos_left b (Nat.pos_of_ne_zero (by simp)))

theorem bn_bg_of {w : World} {nb : Bool} {ao : Option Addr} {n ca : Nat} {x : Int} (h : Bn w nb ao n ca x) (hb : blen x.natAbs ≤ 1000000) : Bg w nb ao n ca x := by
  have hl : n ≤ 40000 := by rw [← h.sl.len]; exact limbs_of_blen (by omega)
  exact h.bg (by omega)

theorem Bg.only_bx {w w' : World} {g : Nat} {nb mb : Bool} {ao ro : Option Addr} {n cap k cr : Nat} {x : Int} (h : Bg w mb ro k cr x) (hx : Box w g nb ao n cap) (ho : Only g w w') : Bg w' mb ro k cr x := by
  obtain ⟨⟨zs, h1, h2⟩, h3⟩ := h
  exact ⟨⟨zs, h1.only_box hx ho, h2⟩, h3⟩

/-- two integers stored in their places -/
theorem two_bigs {w w0 : World} {g h B : Nat} {nb mb xn yn : Bool} {ao bo xo yo : Option Addr} {n m ca cb xk xc yk yc : Nat} {X Y : Int} (hg : Box w g nb ao n ca) (hh : Box w h mb bo m cb) (hne : g ≠ h) (hBg : B ≤ g) (hBh : B ≤ h)
    (hx : Bg w xn xo xk xc X) (hy : Bg w yn yo yk yc Y) (hb : Below B w0 w) :
    Bg ((((w.setCell ⟨g, 0, none⟩ (.bool xn)).setCell ⟨g, 1, none⟩ (.slice xo xk xc)).setCell ⟨h, 0, none⟩ (.bool yn)).setCell ⟨h, 1, none⟩ (.slice yo yk yc)).drew xn xo xk xc X ∧
    Bg ((((w.setCell ⟨g, 0, none⟩ (.bool xn)).setCell ⟨g, 1, none⟩ (.slice xo xk xc)).setCell ⟨h, 0, none⟩ (.bool yn)).setCell ⟨h, 1, none⟩ (.slice yo yk yc)).drew yn yo yk yc Y ∧
    Below B w0 ((((w.setCell ⟨g, 0, none⟩ (.bool xn)).setCell ⟨g, 1, none⟩ (.slice xo xk xc)).setCell ⟨h, 0, none⟩ (.bool yn)).setCell ⟨h, 1, none⟩ (.slice yo yk yc)).drew ∧
    Box ((((w.setCell ⟨g, 0, none⟩ (.bool xn)).setCell ⟨g, 1, none⟩ (.slice xo xk xc)).setCell ⟨h, 0, none⟩ (.bool yn)).setCell ⟨h, 1, none⟩ (.slice yo yk yc)).drew g xn xo xk xc ∧
    Box ((((w.setCell ⟨g, 0, none⟩ (.bool xn)).setCell ⟨g, 1, none⟩ (.slice xo xk xc)).setCell ⟨h, 0, none⟩ (.bool yn)).setCell ⟨h, 1, none⟩ (.slice yo yk yc)).drew h yn yo yk yc := by
  have o1 := only_set2 w g (.bool xn) (.slice xo xk xc)
  have g1 := hg.stored xn xo xk xc
  have h1 := hh.only o1 hne.symm
  have x1 := hx.only_bx hg o1
  have y1 := hy.only_bx hg o1
  generalize (w.setCell ⟨g, 0, none⟩ (.bool xn)).setCell ⟨g, 1, none⟩ (.slice xo xk xc) = w1 at *
  have o2 := only_set2 w1 h (.bool yn) (.slice yo yk yc)
  exact ⟨(x1.only_bx h1 o2).drew, (y1.only_bx h1 o2).drew, ((hb.trans (o1.below hBg)).trans (o2.below hBh)).drew, (g1.only o2 hne).drew, (h1.stored yn yo yk yc).drew⟩

set_option maxRecDepth 100000 in
set_option maxHeartbeats 4000000 in
theorem aligned_any (nb : Bool) (ao : Option Addr) (n ca : Nat) (m e : Int) (mb : Bool) (bo : Option Addr) (k cb : Nat) (m' e' : Int) (w : World) (ha : Bn w nb ao n ca m) (hb : Bn w mb bo k cb m') (hd : Nd (some (m, e))) (hd' : Nd (some (m', e'))) :
    Calls Tryz.prog 25 #[.agg #[.bool false, .bool nb, .slice ao n ca, .int .i64 e], .agg #[.bool false, .bool mb, .slice bo k cb, .int .i64 e']] w fun r w' =>
      ∃ xn xo xk xc yn yo yk yc X Y E, r = .returned (.tuple #[.agg #[.bool xn, .slice xo xk xc], .agg #[.bool yn, .slice yo yk yc], .int .i64 E]) ∧ Bg w' xn xo xk xc X ∧ Bg w' yn yo yk yc Y ∧ Aligned (some (m, e)) (some (m', e')) X Y E ∧ Ext w w' := by
  obtain ⟨ba, ea0, ea1⟩ := nd_blen hd
  obtain ⟨bb', eb0, eb1⟩ := nd_blen hd'
  simp only [dm, dx, Option.getD_some] at ba ea0 ea1 bb' eb0 eb1
  go_enter Tryz.func25, Tryz.ntmps25
  go_upto_region 1 with fail
  obtain ⟨W, hW, hB, hbx, hby, hr1, hr2, hz⟩ := boxes_al w false nb ao n ca e false mb bo k cb e'
  rw [← hW]
  clear hW
  have ga := bn_bg_of (ha.below hB) (by omega)
  have gb := bn_bg_of (hb.below hB) (by omega)
  generalize hBe : w.heap.size = B at *
  have HBe := Lib.hid hBe; clear hBe ha hb
  have k0 := hbx.c1
  have k1 := hbx.c2
  have k2 := hbx.c3
  go_wp2_with fail
  refine (sign_any _ _ _ _ _ _ ga).mono ?_
  rintro r w1 ⟨rfl, hw1⟩
  have ga := ga.below hw1
  have gb := gb.below hw1
  have bx := hbx.below hw1
  have bY := hby.below hw1
  have c1 := hr1.below hw1
  have c2 := hr2.below hw1
  obtain ⟨hB1, hB1'⟩ := bnext hB (by omega) hw1
  have hz1 := hw1.size
  clear k0 k1 k2 hbx hby hr1 hr2 hB hw1
  have k0 := bx.c1
  have k1 := bx.c2
  have k2 := bx.c3
  have l0 := bY.c1
  have l1 := bY.c2
  have l2 := bY.c3
  by_cases h0 : m = 0
  · have hs0 : (sgn3 m 0 == 0) = true := by simp [sgn3, h0]
    have hAl := Aligned.zero1 (e := e) hd' h0
    have HAL := Lib.hid hAl; clear hAl h0
    go_upto_region 2 with fail
    have q0 := c1.c0
    have q1 := c1.c1
    have f0 := c1.f 0
    have f1 := c1.f 1
    have p0 := c2.c0
    have p1 := c2.c1
    have g0 := c2.f 0
    have g1 := c2.f 1
    have hres := two_bigs c1 c2 (by omega) (B := B) (by omega) (by omega) ga gb hB1
    have HRES := Lib.hid hres; clear hres
    go_region
    obtain ⟨r1, r2, r3, r4, r5⟩ := HRES.out
    generalize hWe : World.drew _ = V at r1 r2 r3 r4 r5 ⊢
    have z0 := r4.c0
    have z1 := r4.c1
    have z2 := r5.c0
    have z3 := r5.c1
    have R := Lib.hid (And.intro r1 (And.intro r2 r3))
    clear r1 r2 r3 r4 r5 hWe q0 q1 f0 f1 p0 p1 g0 g1 HRES
    go_wp2
    refine bodyPost_ret (v := .tuple #[.agg #[.bool nb, .slice ao n ca], .agg #[.bool mb, .slice bo k cb], .int .i64 e']) (by simp [results, Tryz.results25, go_sem, z0, z1, z2, z3]) rfl ⟨_, _, _, _, _, _, _, _, _, _, _, rfl, R.out.1, R.out.2.1, HAL.out, ?_⟩
    show Below _ _ _; rw [HBe.out]; exact R.out.2.2
  · have hs0 : (sgn3 m 0 == 0) = false := by
      have : sgn3 m 0 ≠ 0 := fun h => h0 (sgn3_zero h)
      simpa using this
    go_wp2_with fail
    refine (sign_any _ _ _ _ _ _ gb).mono ?_
    rintro r w2 ⟨rfl, hw2⟩
    have ga := ga.below hw2
    have gb := gb.below hw2
    have bx := bx.below hw2
    have bY := bY.below hw2
    have c1 := c1.below hw2
    have c2 := c2.below hw2
    obtain ⟨hB2, hB2'⟩ := bnext hB1 (by omega) hw2
    have hz2 := hw2.size
    clear k0 k1 k2 l0 l1 l2 hB1 hw2 hs0 h0
    have k0 := bx.c1
    have k1 := bx.c2
    have k2 := bx.c3
    have l0 := bY.c1
    have l1 := bY.c2
    have l2 := bY.c3
    by_cases h0 : m' = 0
    · have hs0 : (sgn3 m' 0 == 0) = true := by simp [sgn3, h0]
      have hAl := Aligned.zero2 (e' := e') hd h0
      have HAL := Lib.hid hAl; clear hAl h0
      go_upto_region 4 with fail
      have q0 := c1.c0
      have q1 := c1.c1
      have f0 := c1.f 0
      have f1 := c1.f 1
      have p0 := c2.c0
      have p1 := c2.c1
      have g0 := c2.f 0
      have g1 := c2.f 1
      have hres := two_bigs c1 c2 (by omega) (B := B) (by omega) (by omega) ga gb hB2
      have HRES := Lib.hid hres; clear hres
      go_region
      obtain ⟨r1, r2, r3, r4, r5⟩ := HRES.out
      generalize hWe : World.drew _ = V at r1 r2 r3 r4 r5 ⊢
      have z0 := r4.c0
      have z1 := r4.c1
      have z2 := r5.c0
      have z3 := r5.c1
      have R := Lib.hid (And.intro r1 (And.intro r2 r3))
      clear r1 r2 r3 r4 r5 hWe q0 q1 f0 f1 p0 p1 g0 g1 HRES
      go_wp2
      refine bodyPost_ret (v := .tuple #[.agg #[.bool nb, .slice ao n ca], .agg #[.bool mb, .slice bo k cb], .int .i64 e]) (by simp [results, Tryz.results25, go_sem, z0, z1, z2, z3]) rfl ⟨_, _, _, _, _, _, _, _, _, _, _, rfl, R.out.1, R.out.2.1, HAL.out, ?_⟩
      show Below _ _ _; rw [HBe.out]; exact R.out.2.2
    · have hs0 : (sgn3 m' 0 == 0) = false := by
        have : sgn3 m' 0 ≠ 0 := fun h => h0 (sgn3_zero h)
        simpa using this
      clear h0
      rcases Int.lt_trichotomy e e' with hlt | heq | hgt
      · have hnot : ¬ e > e' := by omega
        have hAl := Aligned.mk2 hd hd' (by omega)
        have HAL := Lib.hid hAl; clear hAl
        obtain ⟨sh, hsh⟩ : ∃ sh : Nat, (e' - e).toNat = sh := ⟨_, rfl⟩
        have hsh2 : e' - e = (sh : Int) := by omega
        rw [hsh] at HAL
        go_wp2_with fail
        refine (shift_left _ _ _ _ _ _ _ gb (by omega)).mono ?_
        rintro r w3 ⟨yn, yo, yk, yc, rfl, hr, hw3⟩
        have ga := ga.below hw3
        have gy := bn_bg_of hr (by have := HAL.out.2.2.2.2.2; omega)
        have bx := bx.below hw3
        have bY := bY.below hw3
        have c1 := c1.below hw3
        have c2 := c2.below hw3
        obtain ⟨hB3, hB3'⟩ := bnext hB2 (by omega) hw3
        have hz3 := hw3.size
        clear k0 k1 k2 l0 l1 l2 hB2 hw3 hr gb
        have q0 := c2.c0
        have q1 := c2.c1
        have f0 := c2.f 0
        have f1 := c2.f 1
        go_upto_region 10 with fail
        have o1 := only_set2 w3 (B + 1 + 1 + 1) (.bool yn) (.slice yo yk yc)
        have ga := ga.only_bx c2 o1
        have gy := gy.only_bx c2 o1
        have bx := bx.only o1 (by omega)
        have bY := bY.only o1 (by omega)
        have c1 := c1.only o1 (by omega)
        have c2 := c2.stored yn yo yk yc
        have hB4 := hB3.trans (o1.below (B := B) (by omega))
        clear q0 q1 f0 f1 o1 hB3
        generalize (w3.setCell ⟨B + 1 + 1 + 1, 0, none⟩ (.bool yn)).setCell ⟨B + 1 + 1 + 1, 1, none⟩ (.slice yo yk yc) = w4 at *
        have k0 := bx.c1
        have k1 := bx.c2
        have k2 := bx.c3
        have l0 := bY.c1
        have l1 := bY.c2
        have l2 := bY.c3
        have q0 := c1.c0
        have q1 := c1.c1
        have f0 := c1.f 0
        have f1 := c1.f 1
        have p0 := c2.c0
        have p1 := c2.c1
        have g0 := c2.f 0
        have g1 := c2.f 1
        have hres := two_bigs c1 c2 (by omega) (B := B) (by omega) (by omega) ga gy hB4
        have HRES := Lib.hid hres; clear hres
        go_region
        obtain ⟨r1, r2, r3, r4, r5⟩ := HRES.out
        generalize hWe : World.drew _ = V at r1 r2 r3 r4 r5 ⊢
        have z0 := r4.c0
        have z1 := r4.c1
        have z2 := r5.c0
        have z3 := r5.c1
        have R := Lib.hid (And.intro r1 (And.intro r2 r3))
        clear r1 r2 r3 r4 r5 hWe q0 q1 f0 f1 p0 p1 g0 g1 HRES
        go_wp2
        refine bodyPost_ret (v := .tuple #[.agg #[.bool nb, .slice ao n ca], .agg #[.bool yn, .slice yo yk yc], .int .i64 e]) (by simp [results, Tryz.results25, go_sem, z0, z1, z2, z3]) rfl ⟨_, _, _, _, _, _, _, _, _, _, _, rfl, R.out.1, R.out.2.1, HAL.out, ?_⟩
        show Below _ _ _; rw [HBe.out]; exact R.out.2.2
      · subst heq
        have hAl := Aligned.mk2 hd hd' (Int.le_refl _)
        rw [show (e - e).toNat = 0 by omega, Int.pow_zero, Int.mul_one] at hAl
        have HAL := Lib.hid hAl; clear hAl
        go_upto_region 11 with fail
        have q0 := c1.c0
        have q1 := c1.c1
        have f0 := c1.f 0
        have f1 := c1.f 1
        have p0 := c2.c0
        have p1 := c2.c1
        have g0 := c2.f 0
        have g1 := c2.f 1
        have hres := two_bigs c1 c2 (by omega) (B := B) (by omega) (by omega) ga gb hB2
        have HRES := Lib.hid hres; clear hres
        go_region
        obtain ⟨r1, r2, r3, r4, r5⟩ := HRES.out
        generalize hWe : World.drew _ = V at r1 r2 r3 r4 r5 ⊢
        have z0 := r4.c0
        have z1 := r4.c1
        have z2 := r5.c0
        have z3 := r5.c1
        have R := Lib.hid (And.intro r1 (And.intro r2 r3))
        clear r1 r2 r3 r4 r5 hWe q0 q1 f0 f1 p0 p1 g0 g1 HRES
        go_wp2
        refine bodyPost_ret (v := .tuple #[.agg #[.bool nb, .slice ao n ca], .agg #[.bool mb, .slice bo k cb], .int .i64 e]) (by simp [results, Tryz.results25, go_sem, z0, z1, z2, z3]) rfl ⟨_, _, _, _, _, _, _, _, _, _, _, rfl, R.out.1, R.out.2.1, HAL.out, ?_⟩
        show Below _ _ _; rw [HBe.out]; exact R.out.2.2
      · have hAl := Aligned.mk1 hd hd' (by omega)
        have HAL := Lib.hid hAl; clear hAl
        obtain ⟨sh, hsh⟩ : ∃ sh : Nat, (e - e').toNat = sh := ⟨_, rfl⟩
        have hsh2 : e - e' = (sh : Int) := by omega
        rw [hsh] at HAL
        go_wp2_with fail
        refine (shift_left _ _ _ _ _ _ _ ga (by omega)).mono ?_
        rintro r w3 ⟨yn, yo, yk, yc, rfl, hr, hw3⟩
        have gb := gb.below hw3
        have gy := bn_bg_of hr (by have := HAL.out.2.2.2.2.1; omega)
        have bx := bx.below hw3
        have bY := bY.below hw3
        have c1 := c1.below hw3
        have c2 := c2.below hw3
        obtain ⟨hB3, hB3'⟩ := bnext hB2 (by omega) hw3
        have hz3 := hw3.size
        clear k0 k1 k2 l0 l1 l2 hB2 hw3 hr ga
        have q0 := c1.c0
        have q1 := c1.c1
        have f0 := c1.f 0
        have f1 := c1.f 1
        go_upto_region 7 with fail
        have o1 := only_set2 w3 (B + 1 + 1) (.bool yn) (.slice yo yk yc)
        have gb := gb.only_bx c1 o1
        have gy := gy.only_bx c1 o1
        have bx := bx.only o1 (by omega)
        have bY := bY.only o1 (by omega)
        have c2 := c2.only o1 (by omega)
        have c1 := c1.stored yn yo yk yc
        have hB4 := hB3.trans (o1.below (B := B) (by omega))
        clear q0 q1 f0 f1 o1 hB3
        generalize (w3.setCell ⟨B + 1 + 1, 0, none⟩ (.bool yn)).setCell ⟨B + 1 + 1, 1, none⟩ (.slice yo yk yc) = w4 at *
        have k0 := bx.c1
        have k1 := bx.c2
        have k2 := bx.c3
        have l0 := bY.c1
        have l1 := bY.c2
        have l2 := bY.c3
        have q0 := c1.c0
        have q1 := c1.c1
        have f0 := c1.f 0
        have f1 := c1.f 1
        have p0 := c2.c0
        have p1 := c2.c1
        have g0 := c2.f 0
        have g1 := c2.f 1
        have hres := two_bigs c1 c2 (by omega) (B := B) (by omega) (by omega) gy gb hB4
        have HRES := Lib.hid hres; clear hres
        go_region
        obtain ⟨r1, r2, r3, r4, r5⟩ := HRES.out
        generalize hWe : World.drew _ = V at r1 r2 r3 r4 r5 ⊢
        have z0 := r4.c0
        have z1 := r4.c1
        have z2 := r5.c0
        have z3 := r5.c1
        have R := Lib.hid (And.intro r1 (And.intro r2 r3))
        clear r1 r2 r3 r4 r5 hWe q0 q1 f0 f1 p0 p1 g0 g1 HRES
        go_wp2
        refine bodyPost_ret (v := .tuple #[.agg #[.bool yn, .slice yo yk yc], .agg #[.bool mb, .slice bo k cb], .int .i64 e']) (by simp [results, Tryz.results25, go_sem, z0, z1, z2, z3]) rfl ⟨_, _, _, _, _, _, _, _, _, _, _, rfl, R.out.1, R.out.2.1, HAL.out, ?_⟩
        show Below _ _ _; rw [HBe.out]; exact R.out.2.2
end Go.Proofs.YtapcecjbmcoliaaGreatDoor
