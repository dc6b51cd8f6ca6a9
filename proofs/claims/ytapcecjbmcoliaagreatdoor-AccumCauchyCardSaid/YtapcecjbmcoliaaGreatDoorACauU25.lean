import Derived.Test.YtapcecjbmcoliaaGreatDoorACauU24
namespace Go.Proofs.YtapcecjbmcoliaaGreatDoor
open Go.RowKit

theorem sgn3_scale {x : Int} {k : Nat} : sgn3 (x * 2 ^ k) 0 = sgn3 x 0 := by
  have hp := two_pos k
  unfold sgn3
  rcases Int.lt_trichotomy x 0 with h | h | h
  · rw [if_pos (Int.mul_neg_of_neg_of_pos h hp), if_pos h]
  · subst h; simp
  · rw [if_neg (by have := Int.mul_pos h hp; omega), if_pos (Int.mul_pos h hp), if_neg (by omega), if_pos h]

theorem sgn3_common {x y : Int} {k : Nat} : sgn3 (x * 2 ^ k) (y * 2 ^ k) = sgn3 x y := by
  have hp := two_pos k
  unfold sgn3
  rcases Int.lt_trichotomy x y with h | h | h
  · rw [if_pos (Int.mul_lt_mul_of_pos_right h hp), if_pos h]
  · subst h; simp
  · have := Int.mul_lt_mul_of_pos_right h hp
    rw [if_neg (by omega), if_pos this, if_neg (by omega), if_pos h]

theorem sc_sign (m e : Int) : sgn3 (sc (some (m, e))) 0 = sgn3 m 0 := sgn3_scale

theorem sgn3_cases (x y : Int) : sgn3 x y = -1 ∧ x < y ∨ sgn3 x y = 0 ∧ x = y ∨ sgn3 x y = 1 ∧ y < x := by
  unfold sgn3
  rcases Int.lt_trichotomy x y with h | h | h
  · left; rw [if_pos h]; exact ⟨rfl, h⟩
  · right; left; subst h; simp
  · right; right; rw [if_neg (by omega), if_pos h]; exact ⟨rfl, h⟩

theorem cmp_signs {x y : Int} (h : sgn3 x 0 ≠ sgn3 y 0) : sgn3 (sgn3 x 0) (sgn3 y 0) = sgn3 x y := by
  rcases sgn3_cases x 0 with ⟨a, b⟩ | ⟨a, b⟩ | ⟨a, b⟩ <;> rcases sgn3_cases y 0 with ⟨c, d⟩ | ⟨c, d⟩ | ⟨c, d⟩ <;> rw [a, c] at h ⊢ <;> first | exact absurd rfl h | (unfold sgn3; simp; omega)

/-- the size of a dyad -/
theorem sc_size {m e : Int} (h : Nd (some (m, e))) (h0 : m ≠ 0) : ∃ l : Nat, (l : Int) = e + 65536 + blen m.natAbs - 1 ∧ 2 ^ l ≤ (sc (some (m, e))).natAbs ∧ (sc (some (m, e))).natAbs < 2 ^ (l + 1) := by
  have he : -65536 ≤ e := by
    rcases h with ⟨h1, _⟩ | ⟨_, h2, _⟩
    · exact absurd h1 h0
    · exact h2
  obtain ⟨k, h1, h2, h3⟩ := blen_spec (show m.natAbs ≠ 0 by omega)
  refine ⟨k + (e + 65536).toNat, by rw [h1]; omega, ?_, ?_⟩
  · rw [sc_some, natAbs_shift, Nat.pow_add]; exact Nat.mul_le_mul_right _ h2
  · rw [sc_some, natAbs_shift, show k + (e + 65536).toNat + 1 = k + 1 + (e + 65536).toNat by omega, Nat.pow_add]
    exact Nat.mul_lt_mul_of_pos_right h3 (Nat.pos_of_ne_zero (by simp))

theorem cmp_tops {m e m' e' : Int} (h : Nd (some (m, e))) (h' : Nd (some (m', e'))) (hs : sgn3 m 0 = sgn3 m' 0) (ht : e + (blen m.natAbs : Int) ≠ e' + blen m'.natAbs) :
    sgn3 m 0 * sgn3 (e + (blen m.natAbs : Int)) (e' + blen m'.natAbs) = sgn3 (sc (some (m, e))) (sc (some (m', e'))) := by
  have s1 := sc_sign m e
  have s2 := sc_sign m' e'
  have hm : m ≠ 0 := by
    rintro rfl
    have : m' = 0 := by
      have h1 : sgn3 m' 0 = 0 := by rw [← hs]; simp [sgn3]
      exact sgn3_zero h1
    subst this
    have a : e = 0 := by rcases h with ⟨_, h⟩ | ⟨h, _⟩ <;> simp_all
    have b : e' = 0 := by rcases h' with ⟨_, h⟩ | ⟨h, _⟩ <;> simp_all
    exact ht (by rw [a, b])
  have hm' : m' ≠ 0 := by
    rintro rfl
    have h1 : sgn3 m 0 = 0 := by rw [hs]; simp [sgn3]
    exact hm (sgn3_zero h1)
  obtain ⟨l, l1, l2, l3⟩ := sc_size h hm
  obtain ⟨k, k1, k2, k3⟩ := sc_size h' hm'
  generalize sc (some (m, e)) = X at *
  generalize sc (some (m', e')) = Y at *
  have key : ∀ {A B a b : Nat}, 2 ^ a ≤ A → A < 2 ^ (a + 1) → 2 ^ b ≤ B → a < b → A < B := by
    intro A B a b _ h2 h3 h4
    have : 2 ^ (a + 1) ≤ 2 ^ b := Nat.pow_le_pow_right (by omega) h4
    omega
  rcases sgn3_cases (e + (blen m.natAbs : Int)) (e' + blen m'.natAbs) with ⟨t1, t2⟩ | ⟨t1, t2⟩ | ⟨t1, t2⟩
  · have hlt := key l2 l3 k2 (show l < k by omega)
    rcases sgn3_cases m 0 with ⟨a, b⟩ | ⟨a, b⟩ | ⟨a, b⟩
    · rw [hs] at s1; rw [a] at hs; rw [t1, a]
      rw [← hs] at s1 s2
      have c1 : X < 0 := by rcases sgn3_cases X 0 with ⟨c, d⟩ | ⟨c, d⟩ | ⟨c, d⟩ <;> omega
      have c2 : Y < 0 := by rcases sgn3_cases Y 0 with ⟨c, d⟩ | ⟨c, d⟩ | ⟨c, d⟩ <;> omega
      unfold sgn3; rw [if_neg (by omega), if_pos (by omega)]; rfl
    · exact absurd b hm
    · rw [hs] at s1; rw [a] at hs; rw [t1, a]
      rw [← hs] at s1 s2
      have c1 : 0 < X := by rcases sgn3_cases X 0 with ⟨c, d⟩ | ⟨c, d⟩ | ⟨c, d⟩ <;> omega
      have c2 : 0 < Y := by rcases sgn3_cases Y 0 with ⟨c, d⟩ | ⟨c, d⟩ | ⟨c, d⟩ <;> omega
      unfold sgn3; rw [if_pos (by omega)]; rfl
  · exact absurd t2 ht
  · have hlt := key k2 k3 l2 (show k < l by omega)
    rcases sgn3_cases m 0 with ⟨a, b⟩ | ⟨a, b⟩ | ⟨a, b⟩
    · rw [hs] at s1; rw [a] at hs; rw [t1, a]
      rw [← hs] at s1 s2
      have c1 : X < 0 := by rcases sgn3_cases X 0 with ⟨c, d⟩ | ⟨c, d⟩ | ⟨c, d⟩ <;> omega
      have c2 : Y < 0 := by rcases sgn3_cases Y 0 with ⟨c, d⟩ | ⟨c, d⟩ | ⟨c, d⟩ <;> omega
      unfold sgn3; rw [if_pos (by omega)]; rfl
    · exact absurd b hm
    · rw [hs] at s1; rw [a] at hs; rw [t1, a]
      rw [← hs] at s1 s2
      have c1 : 0 < X := by rcases sgn3_cases X 0 with ⟨c, d⟩ | ⟨c, d⟩ | ⟨c, d⟩ <;> omega
      have c2 : 0 < Y := by rcases sgn3_cases Y 0 with ⟨c, d⟩ | ⟨c, d⟩ | ⟨c, d⟩ <;> omega
      unfold sgn3; rw [if_neg (by omega), if_pos (by omega)]; rfl

/-- the two results of a comparison -/
def CmpOut (d d' : Dy) (e : Ending) : Prop :=
  (d = none ∨ d' = none) ∧ e = .returned (.tuple #[.int .i64 0, .bool false]) ∨ d ≠ none ∧ d' ≠ none ∧ e = .returned (.tuple #[.int .i64 (sgn3 (sc d) (sc d')), .bool true])

set_option maxRecDepth 100000 in
set_option maxHeartbeats 4000000 in
theorem dcmp_any (u v : Value) (d d' : Dy) (w : World) (hu : Dg w u d) (hv : Dg w v d') (hT : Table w) :
    Calls Tryz.prog 7 #[u, v] w fun e w' => CmpOut d d' e ∧ Ext w w' := by
  have hu0 := hu
  have hv0 := hv
  obtain ⟨ub, un, uo, uk, uc, _, uf, rfl, -⟩ := hu0
  obtain ⟨vb, vn, vo, vk, vc, _, vf, rfl, -⟩ := hv0
  go_enter Tryz.func7, Tryz.ntmps7
  go_upto_region 1 with fail
  obtain ⟨W, hW, hB, hbx, hby, hz⟩ := boxes_two_d w ub un uo uk uc uf vb vn vo vk vc vf
  rw [← hW]
  clear hW
  have hu := hu.ext hB
  have hv := hv.ext hB
  have HT0 := Lib.hid hT
  have hT := hT.below hB
  generalize hBe : w.heap.size = B at *
  have HBe := Lib.hid hBe; clear hBe
  go_cut [] from 12 (fun wx => ∃ xb xn xo xk xc xe yb yn yo yk yc ye, Dn wx (.agg #[.bool xb, .bool xn, .slice xo xk xc, .int .i64 xe]) d ∧ Dn wx (.agg #[.bool yb, .bool yn, .slice yo yk yc, .int .i64 ye]) d' ∧
    DBox wx B xb xn xo xk xc xe ∧ DBox wx (B + 1) yb yn yo yk yc ye ∧ Below B w wx ∧ (∀ k, B + 1 < k → k < W.heap.size → wx.heap[k]? = W.heap[k]?) ∧ W.heap.size ≤ wx.heap.size)
  case first =>
    have k0 := hbx.c0
    have k1 := hbx.c1
    have k2 := hbx.c2
    have k3 := hbx.c3
    have l0 := hby.c0
    have l1 := hby.c1
    have l2 := hby.c2
    have l3 := hby.c3
    go_region_with (first
      | (go_at_call 21; refine (dnormal_any _ _ _ (by exact hu.ext (by exact (Below.refl _ _).drew)) (by exact hT.below (by exact (Below.refl _ _).drew))).mono ?_; rintro e w1 ⟨r1, rfl, hr1, hw1⟩; have ex1 : Ext W w1 := Ext.trans (by exact (Below.refl _ _).drew) hw1; obtain ⟨xb, xn, xo, xk, xc, xe, rfl⟩ := hr1.parts; have fb := hby.ext ex1; have h0 := fb.c0; have h1 := fb.c1; have h2 := fb.c2; have h3 := fb.c3)
      | (go_at_call 21; refine (dnormal_any _ _ _ (by exact hv.ext ex1) (by exact hT.below ex1)).mono ?_; rintro e w2 ⟨r2, rfl, hr2, hw2⟩; have ex2 : Ext W w2 := Ext.trans ex1 hw2; obtain ⟨yb, yn, yo, yk, yc, ye, rfl⟩ := hr2.parts; have hr1 := hr1.ext hw2; clear h0 h1 h2 h3; have fa := hbx.ext ex2; have fb := hby.ext ex2; have a0 := fa.c0; have a1 := fa.c1; have a2 := fa.c2; have a3 := fa.c3; have b0 := fb.c0; have b1 := fb.c1; have b2 := fb.c2; have b3 := fb.c3; have g0 := fa.f 0; have g1 := fa.f 1; have g2 := fa.f 2; have g3 := fa.f 3; have h0 := fb.f 0; have h1 := fb.f 1; have h2 := fb.f 2; have h3 := fb.f 3))
    all_goals
      go_wp2
      go_meet
    all_goals
      clear a0 a1 a2 a3 b0 b1 b2 b3 g0 g1 g2 g3 h0 h1 h2 h3 k0 k1 k2 k3 l0 l1 l2 l3
      obtain ⟨hB2, hB2'⟩ := bnext hB (by omega) ex2
      obtain ⟨Z, hZ, z1, z2, z3, z4, z5, z6, z7⟩ := two_dyads fa fb (by omega) (Nat.le_refl B) (Nat.le_succ B) hr1 hr2 hB2
      rw [← hZ]
      exact ⟨_, _, _, _, _, _, _, _, _, _, _, _, z1, z2, z4, z5, z3, fun k hk1 hk2 => by rw [z6 k (by omega) (by omega)]; exact Below.block ex2 k hk2, by rw [z7]; exact Below.size ex2⟩
  case rest =>
    obtain ⟨xb, xn, xo, xk, xc, xe, yb, yn, yo, yk, yc, ye, hx, hy, bx, bY, hB1, hkeep, hzc⟩ := hcut
    have hT1 := (show Table w from HT0.out).below (w' := wc) (by rw [HBe.out]; exact hB1)
    have HT := Lib.hid hT1
    have hzz : B + 2 ≤ wc.heap.size := by omega
    clear hT1 hbx hby hu hv hT hB hkeep
    have k0 := bx.c0
    have k1 := bx.c1
    have k2 := bx.c2
    have k3 := bx.c3
    have l0 := bY.c0
    have l1 := bY.c1
    have l2 := bY.c2
    have l3 := bY.c3
    cases d with
    | none =>
      obtain rfl := dn_none hx
      go_wp2
      go_ret2
      refine ⟨Or.inl ⟨Or.inl rfl, rfl⟩, ?_⟩
      show Below _ _ _; rw [HBe.out]; exact hB1
    | some p =>
      obtain ⟨m, f⟩ := p
      obtain ⟨rfl, rfl, hm⟩ := dn_some hx
      cases d' with
      | none =>
        obtain rfl := dn_none hy
        go_wp2
        go_ret2
        refine ⟨Or.inl ⟨Or.inr rfl, rfl⟩, ?_⟩
        show Below _ _ _; rw [HBe.out]; exact hB1
      | some q =>
        obtain ⟨m', f'⟩ := q
        obtain ⟨rfl, rfl, hm'⟩ := dn_some hy
        have hn1 := hx.1
        have hn2 := hy.1
        have hnx := nd_blen hn1
        have hny := nd_blen hn2
        simp only [dm, dx, Option.getD_some] at hnx hny
        obtain ⟨hnx, hx0, hx1⟩ := hnx
        obtain ⟨hny, hy0, hy1⟩ := hny
        have gm := bn_bg_of hm (by omega)
        have gm' := bn_bg_of hm' (by omega)
        have hcells : ∀ wx, Ext wc wx → (wx.cell? ⟨B, 0, none⟩ = some (.bool false) ∧ wx.cell? ⟨B, 1, none⟩ = some (.bool xn) ∧ wx.cell? ⟨B, 2, none⟩ = some (.slice xo xk xc) ∧ wx.cell? ⟨B, 3, none⟩ = some (.int .i64 xe)) ∧
            (wx.cell? ⟨B + 1, 0, none⟩ = some (.bool false) ∧ wx.cell? ⟨B + 1, 1, none⟩ = some (.bool yn) ∧ wx.cell? ⟨B + 1, 2, none⟩ = some (.slice yo yk yc) ∧ wx.cell? ⟨B + 1, 3, none⟩ = some (.int .i64 ye)) := fun wx h =>
          ⟨⟨(bx.ext h).c0, (bx.ext h).c1, (bx.ext h).c2, (bx.ext h).c3⟩, ⟨(bY.ext h).c0, (bY.ext h).c1, (bY.ext h).c2, (bY.ext h).c3⟩⟩
        have HC := Lib.hid hcells; clear hcells hx hy bx bY
        have ex0 : Ext wc wc.drew := (Below.refl _ _).drew
        have hsx := sgn3_bd m 0
        have hsy := sgn3_bd m' 0
        obtain ⟨sx, hsx'⟩ : ∃ sx, sgn3 m 0 = sx := ⟨_, rfl⟩
        obtain ⟨sy, hsy'⟩ : ∃ sy, sgn3 m' 0 = sy := ⟨_, rfl⟩
        rw [hsx'] at hsx
        rw [hsy'] at hsy
        have HSX := Lib.hid hsx'; clear hsx'
        have HSY := Lib.hid hsy'; clear hsy'
        go_upto_region 4 with fail
        go_region_held3 (fun wx => (wx.cell? ⟨B, 0, none⟩ = some (.bool false) ∧ wx.cell? ⟨B, 1, none⟩ = some (.bool xn) ∧ wx.cell? ⟨B, 2, none⟩ = some (.slice xo xk xc) ∧ wx.cell? ⟨B, 3, none⟩ = some (.int .i64 xe)) ∧
            (wx.cell? ⟨B + 1, 0, none⟩ = some (.bool false) ∧ wx.cell? ⟨B + 1, 1, none⟩ = some (.bool yn) ∧ wx.cell? ⟨B + 1, 2, none⟩ = some (.slice yo yk yc) ∧ wx.cell? ⟨B + 1, 3, none⟩ = some (.int .i64 ye)))
          (first | exact HC.out _ (by assumption))
          (first
            | (go_at_call 22; refine (sign_any _ _ _ _ _ _ (by exact gm.below ex0)).mono ?_; rintro e w1 ⟨rfl, hw1⟩; rw [HSX.out]; have ex1 : Ext wc w1 := ex0.trans hw1)
            | (go_at_call 22; refine (sign_any _ _ _ _ _ _ (by exact gm'.below ex1)).mono ?_; rintro e w2 ⟨rfl, hw2⟩; rw [HSY.out]; have ex2 : Ext wc w2 := ex1.trans hw2))
        clear k0 k1 k2 k3 l0 l1 l2 l3 ex0 ex1 hw1 hw2
        obtain ⟨⟨k0, k1, k2, k3⟩, l0, l1, l2, l3⟩ := HC.out _ ex2
        have gm2 := gm.below ex2
        have gm2' := gm'.below ex2
        have hm2 := hm.below ex2
        have hm2' := hm'.below ex2
        have hzw := Below.size ex2
        have hB2 := (bnext hB1 (by omega) ex2).1
        have hB2' := hB2.size
        clear gm gm' hm hm' w1
        by_cases hne : sx = sy
        · have hneb : (sx != sy) = false := by simp [hne]
          obtain ⟨tx, htx⟩ : ∃ tx : Int, xe + (blen m.natAbs : Int) = tx := ⟨_, rfl⟩
          obtain ⟨ty, hty⟩ : ∃ ty : Int, ye + (blen m'.natAbs : Int) = ty := ⟨_, rfl⟩
          have HTX := Lib.hid htx; clear htx
          have HTY := Lib.hid hty; clear hty
          have htb := sgn3_bd tx ty
          obtain ⟨c, hc'⟩ : ∃ c, sgn3 tx ty = c := ⟨_, rfl⟩
          rw [hc'] at htb
          have HCC := Lib.hid hc'; clear hc'
          have HNE := Lib.hid hne; clear hne
          go_upto_region 7 with fail
          have ex3 : Ext w2 w2.drew := (Below.refl _ _).drew
          go_region_held3 (fun wx => (wx.cell? ⟨B, 0, none⟩ = some (.bool false) ∧ wx.cell? ⟨B, 1, none⟩ = some (.bool xn) ∧ wx.cell? ⟨B, 2, none⟩ = some (.slice xo xk xc) ∧ wx.cell? ⟨B, 3, none⟩ = some (.int .i64 xe)) ∧
            (wx.cell? ⟨B + 1, 0, none⟩ = some (.bool false) ∧ wx.cell? ⟨B + 1, 1, none⟩ = some (.bool yn) ∧ wx.cell? ⟨B + 1, 2, none⟩ = some (.slice yo yk yc) ∧ wx.cell? ⟨B + 1, 3, none⟩ = some (.int .i64 ye)))
            (first | exact HC.out _ (ex2.trans (by assumption)))
            (first
              | (go_at_call 24; refine (dtop_any _ _ _ _ _ _ _ _ (by exact gm2.below ex3) (by omega) (by omega)).mono ?_; rintro e w3 ⟨rfl, hw3⟩; rw [HTX.out]; have ex4 : Ext w2 w3 := ex3.trans hw3)
              | (go_at_call 24; refine (dtop_any _ _ _ _ _ _ _ _ (by exact gm2'.below ex4) (by omega) (by omega)).mono ?_; rintro e w4 ⟨rfl, hw4⟩; rw [HTY.out]; have ex5 : Ext w2 w4 := ex4.trans hw4)
              | (go_at_call 23; refine (cmpInt_any _ _ _).mono ?_; rintro e w5 ⟨rfl, rfl⟩; rw [HCC.out]))
          clear k0 k1 k2 k3 l0 l1 l2 l3 ex3 ex4 hw3 hw4
          obtain ⟨⟨k0, k1, k2, k3⟩, l0, l1, l2, l3⟩ := HC.out _ (ex2.trans ex5)
          have hB3 := (bnext hB2 (by omega) ex5).1
          have hm3 := hm2.below ex5
          have hm3' := hm2'.below ex5
          by_cases hc0 : c = 0
          · subst hc0
            have hcb : ((0 : Int) != 0) = false := rfl
            go_wp2_with fail
            refine (aligned_any _ _ _ _ _ _ _ _ _ _ _ _ _ hm3 hm3' hn1 hn2).mono ?_
            rintro e w6 ⟨an, ao', ak, ac, bn, bo', bk, bc, X, Y, E, rfl, hX, hY, hAl, hw6⟩
            obtain ⟨hB4, hB4'⟩ := bnext hB3 (by have := Below.size ex5; omega) hw6
            go_upto_region 11 with fail
            obtain ⟨V, hV, hv, e1, e2⟩ := boxes_bb w6 an ao' ak ac bn bo' bk bc
            rw [← hV]
            clear hV k0 k1 k2 k3 l0 l1 l2 l3
            have hX := hX.below hv
            have hY := hY.below hv
            obtain ⟨hB5, hB5'⟩ := bnext hB4 hB4' hv
            have k0 := e1.c0
            have k1 := e1.c1
            have l0 := e2.c0
            have l1 := e2.c1
            generalize w6.heap.size = D at *
            have hres : sgn3 X Y = sgn3 (sc (some (m, xe))) (sc (some (m', ye))) := by
              obtain ⟨_, _, h2, h3, _⟩ := hAl
              rw [h2, h3, sgn3_common]
            have HRES := Lib.hid hres; clear hres hAl
            go_wp2_with fail
            refine (cmp_any _ _ _ _ _ _ _ _ _ _ _ hX hY).mono ?_
            rintro e w7 ⟨rfl, hw7⟩
            rw [HRES.out]
            go_wp2
            go_ret2
            refine ⟨Or.inr ⟨by simp, by simp, rfl⟩, ?_⟩
            show Below _ _ _; rw [HBe.out]; exact (bnext hB5 hB5' hw7).1
          · have hcb : (c != 0) = true := by simpa using hc0
            have hres : wrap64 (sx * c) = sgn3 (sc (some (m, xe))) (sc (some (m', ye))) := by
              have hw : wrap64 (sx * c) = sx * c := by
                have a : sx = -1 ∨ sx = 0 ∨ sx = 1 := by omega
                have b : c = -1 ∨ c = 0 ∨ c = 1 := by omega
                clear HSX HCC
                rcases a with rfl | rfl | rfl <;> rcases b with rfl | rfl | rfl <;> (unfold wrap64; omega)
              rw [hw]
              rw [← HSX.out, ← HCC.out, ← HTX.out, ← HTY.out]
              refine cmp_tops hn1 hn2 (by rw [HSX.out, HSY.out]; exact HNE.out) ?_
              intro h
              rw [HTX.out, HTY.out] at h
              have := HCC.out
              rw [h] at this
              simp [sgn3] at this
              omega
            have HRES := Lib.hid hres; clear hres
            go_wp2_with fail
            go_wp2
            go_ret2
            refine ⟨Or.inr ⟨by simp, by simp, ?_⟩, ?_⟩
            · rw [← HRES.out]; rfl
            · show Below _ _ _; rw [HBe.out]; exact hB3
        · have hneb : (sx != sy) = true := by simpa using hne
          have hres : sgn3 sx sy = sgn3 (sc (some (m, xe))) (sc (some (m', ye))) := by
            have h1 := sc_sign m xe
            have h2 := sc_sign m' ye
            rw [HSX.out] at h1
            rw [HSY.out] at h2
            rw [← h1, ← h2]
            exact cmp_signs (by rw [h1, h2]; exact hne)
          have HRES := Lib.hid hres; clear hres
          have HNE := Lib.hid hne; clear hne
          go_wp2_with fail
          refine (cmpInt_any _ _ _).mono ?_
          rintro e w3 ⟨rfl, rfl⟩
          rw [HRES.out]
          go_wp2
          go_ret2
          refine ⟨Or.inr ⟨by simp, by simp, rfl⟩, ?_⟩
          show Below _ _ _; rw [HBe.out]; exact hB2
end Go.Proofs.YtapcecjbmcoliaaGreatDoor
