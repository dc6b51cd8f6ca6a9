import Derived.Test.YtolghagbpnjpgaaGreatDoorANormU21
import Derived.Deep.CutBlock
import Derived.Test.YtolghagbpnjpgaaGreatDoorANormU18
import Derived.Test.YtolghagbpnjpgaaGreatDoorANormU6
import Derived.Test.YtolghagbpnjpgaaGreatDoorANormU9
import Derived.Test.YtolghagbpnjpgaaGreatDoorANormU20
import Derived.Test.YtolghagbpnjpgaaGreatDoorANormU7
import Derived.Test.YtolghagbpnjpgaaGreatDoorANormU3
namespace Go.Proofs.YtolghagbpnjpgaaGreatDoor
open Go.RowKit

theorem sgn3_scale {x : Int} {k : Nat} : sgn3 (x * 2 ^ k) 0 = sgn3 x 0 := by
  have hp := two_pos k
  unfold sgn3
  rcases Int.lt_trichotomy x 0 with h | h | h
  · rw [if_pos (Int.mul_neg_of_neg_of_pos h hp), if_pos h]
  · subst h; simp
  · rw [if_neg (by have := Int.mul_pos h hp; omega), if_pos (Int.mul_pos h hp), if_neg (by omega), if_pos h]

theorem sgn3_common {x y : Int} {k : Nat} : sgn3 (x * 2 ^ k) (y * 2 ^ k) = sgn3 x y := by
  have hp := two_pos k
  unfold sgn3
  rcases Int.lt_trichotomy x y with h | h | h
  · rw [if_pos (Int.mul_lt_mul_of_pos_right h hp), if_pos h]
  · subst h; simp
  · have := Int.mul_lt_mul_of_pos_right h hp
    rw [if_neg (by omega), if_pos this, if_neg (by omega), if_pos h]

theorem sc_sign (m e : Int) : sgn3 (sc (some (m, e))) 0 = sgn3 m 0 := sgn3_scale

theorem sgn3_cases (x y : Int) : sgn3 x y = -1 ∧ x < y ∨ sgn3 x y = 0 ∧ x = y ∨ sgn3 x y = 1 ∧ y < x := by
  unfold sgn3
  rcases Int.lt_trichotomy x y with h | h | h
  · left; rw [if_pos h]; exact ⟨rfl, h⟩
  · right; left; subst h; simp
  · right; right; rw [if_neg (by omega), if_pos h]; exact ⟨rfl, h⟩

theorem cmp_signs {x y : Int} (h : sgn3 x 0 ≠ sgn3 y 0) : sgn3 (sgn3 x 0) (sgn3 y 0) = sgn3 x y := by
  rcases sgn3_cases x 0 with ⟨a, b⟩ | ⟨a, b⟩ | ⟨a, b⟩ <;> rcases sgn3_cases y 0 with ⟨c, d⟩ | ⟨c, d⟩ | ⟨c, d⟩ <;> rw [a, c] at h ⊢ <;> first | exact absurd rfl h | (unfold sgn3; simp; omega)

/-- the size of a dyad -/
theorem sc_size {m e : Int} (h : Nd (some (m, e))) (h0 : m ≠ 0) : ∃ l : Nat, (l : Int) = e + 65536 + blen m.natAbs - 1 ∧ 2 ^ l ≤ (sc (some (m, e))).natAbs ∧ (sc (some (m, e))).natAbs < 2 ^ (l + 1) := by
  have he : -65536 ≤ e := by
    rcases h with ⟨h1, _⟩ | ⟨_, h2, _⟩
    · exact absurd h1 h0
    · exact h2
  obtain ⟨k, h1, h2, h3⟩ := blen_spec (show m.natAbs ≠ 0 by omega)
  refine ⟨k + (e + 65536).toNat, by rw [h1]; omega, ?_, ?_⟩
  · rw [sc_some, natAbs_shift, Nat.pow_add]; exact Nat.mul_le_mul_right _ h2
  · rw [sc_some, natAbs_shift, show k + (e + 65536).toNat + 1 = k + 1 + (e + 65536).toNat by omega, Nat.pow_add]
    exact Nat.mul_lt_mul_of_pos_right h3 (Nat.pos_of_ne_zero (by simp))

theorem cmp_tops {m e m' e' : Int} (h : Nd (some (m, e))) (h' : Nd (some (m', e'))) (hs : sgn3 m 0 = sgn3 m' 0) (ht : e + (blen m.natAbs : Int) ≠ e' + blen m'.natAbs) :
    sgn3 m 0 * sgn3 (e + (blen m.natAbs : Int)) (e' + blen m'.natAbs) = sgn3 (sc (some (m, e))) (sc (some (m', e'))) := by
  have s1 := sc_sign m e
  have s2 := sc_sign m' e'
  have hm : m ≠ 0 := by
    rintro rfl
    have : m' = 0 := by
      have h1 : sgn3 m' 0 = 0 := by rw [← hs]; simp [sgn3]
      exact sgn3_zero h1
    subst this
    have a : e = 0 := by rcases h with ⟨_, h⟩ | ⟨h, _⟩ <;> simp_all
    have b : e' = 0 := by rcases h' with ⟨_, h⟩ | ⟨h, _⟩ <;> simp_all
    exact ht (by rw [a, b])
  have hm' : m' ≠ 0 := by
    rintro rfl
    have h1 : sgn3 m 0 = 0 := by rw [hs]; simp [sgn3]
    exact hm (sgn3_zero h1)
  obtain ⟨l, l1, l2, l3⟩ := sc_size h hm
  obtain ⟨k, k1, k2, k3⟩ := sc_size h' hm'
  generalize sc (some (m, e)) = X at *
  generalize sc (some (m', e')) = Y at *
  have key : ∀ {A B a b : Nat}, 2 ^ a ≤ A → A < 2 ^ (a + 1) → 2 ^ b ≤ B → a < b → A < B := by
    intro A B a b _ h2 h3 h4
    have : 2 ^ (a + 1) ≤ 2 ^ b := Nat.pow_le_pow_right (by omega) h4
    omega
  rcases sgn3_cases (e + (blen m.natAbs : Int)) (e' + blen m'.natAbs) with ⟨t1, t2⟩ | ⟨t1, t2⟩ | ⟨t1, t2⟩
  · have hlt := key l2 l3 k2 (show l < k by omega)
    rcases sgn3_cases m 0 with ⟨a, b⟩ | ⟨a, b⟩ | ⟨a, b⟩
    · rw [hs] at s1; rw [a] at hs; rw [t1, a]
      rw [← hs] at s1 s2
      have c1 : X < 0 := by rcases sgn3_cases X 0 with ⟨c, d⟩ | ⟨c, d⟩ | ⟨c, d⟩ <;> omega
      have c2 : Y < 0 := by rcases sgn3_cases Y 0 with ⟨c, d⟩ | ⟨c, d⟩ | ⟨c, d⟩ <;> omega
      unfold sgn3; rw [if_neg (by omega), if_pos (by omega)]; rfl
    · exact absurd b hm
    · rw [hs] at s1; rw [a] at hs; rw [t1, a]
      rw [← hs] at s1 s2
      have c1 : 0 < X := by rcases sgn3_cases X 0 with ⟨c, d⟩ | ⟨c, d⟩ | ⟨c, d⟩ <;> omega
      have c2 : 0 < Y := by rcases sgn3_cases Y 0 with ⟨c, d⟩ | ⟨c, d⟩ | ⟨c, d⟩ <;> omega
      unfold sgn3; rw [if_pos (by omega)]; rfl
  · exact absurd t2 ht
  · have hlt := key k2 k3 l2 (show k < l by omega)
    rcases sgn3_cases m 0 with ⟨a, b⟩ | ⟨a, b⟩ | ⟨a, b⟩
    · rw [hs] at s1; rw [a] at hs; rw [t1, a]
      rw [← hs] at s1 s2
      have c1 : X < 0 := by rcases sgn3_cases X 0 with ⟨c, d⟩ | ⟨c, d⟩ | ⟨c, d⟩ <;> omega
      have c2 : Y < 0 := by rcases sgn3_cases Y 0 with ⟨c, d⟩ | ⟨c, d⟩ | ⟨c, d⟩ <;> omega
      unfold sgn3; rw [if_pos (by omega)]; rfl
    · exact absurd b hm
    · rw [hs] at s1; rw [a] at hs; rw [t1, a]
      rw [← hs] at s1 s2
      have c1 : 0 < X := by rcases sgn3_cases X 0 with ⟨c, d⟩ | ⟨c, d⟩ | ⟨c, d⟩ <;> omega
      have c2 : 0 < Y := by rcases sgn3_cases Y 0 with ⟨c, d⟩ | ⟨c, d⟩ | ⟨c, d⟩ <;> omega
      unfold sgn3; rw [if_neg (by omega), if_pos (by omega)]; rfl

/-- the two results of a comparison -/
def CmpOut (d d' : Dy) (e : Ending) : Prop :=
  (d = none ∨ d' = none) ∧ e = .returned (.tuple #[.int .i64 0, .bool false]) ∨ d ≠ none ∧ d' ≠ none ∧ e = .returned (.tuple #[.int .i64 (sgn3 (sc d) (sc d')), .bool true])

set_option maxRecDepth 100000 in
set_option maxHeartbeats 4000000 in
theorem dcmp_any (u v : Value) (d d' : Dy) (w : World) (hu : Dg w u d) (hv : Dg w v d') (hT : Table w) :
    Calls Tryz.prog 210 #[u, v] w fun e w' => CmpOut d d' e ∧ Ext w w' := by
  have hu0 := hu
  have hv0 := hv
  obtain ⟨ub, un, uo, uk, uc, _, uf, rfl, -⟩ := hu0
  obtain ⟨vb, vn, vo, vk, vc, _, vf, rfl, -⟩ := hv0
  go_enter Tryz.func210, Tryz.ntmps210
  go_upto_region 1 with fail
  obtain ⟨W, hW, hB, hbx, hby, hz⟩ := boxes_two_d w ub un uo uk uc uf vb vn vo vk vc vf
  rw [← hW]
  clear hW
  have hu := hu.ext hB
  have hv := hv.ext hB
  have HT0 := Lib.hid hT
  have hT := hT.below hB
  generalize hBe : w.heap.size = B at *
  have HBe := Lib.hid hBe; clear hBe
  go_cut [] from 12 (fun wx => ∃ xb xn xo xk xc xe yb yn yo yk yc ye, Dn wx (.agg #[.bool xb, .bool xn, .slice xo xk xc, .int .i64 xe]) d ∧ Dn wx (.agg #[.bool yb, .bool yn, .slice yo yk yc, .int .i64 ye]) d' ∧
    DBox wx B xb xn xo xk xc xe ∧ DBox wx (B + 1) yb yn yo yk yc ye ∧ Below B w wx ∧ (∀ k, B + 1 < k → k < W.heap.size → wx.heap[k]? = W.heap[k]?) ∧ W.heap.size ≤ wx.heap.size)
  case first =>
    have k0 := hbx.c0
    have k1 := hbx.c1
    have k2 := hbx.c2
    have k3 := hbx.c3
    have l0 := hby.c0
    have l1 := hby.c1
    have l2 := hby.c2
    have l3 := hby.c3
    go_region_with (first
      | (go_at_call 207; refine (dnormal_any _ _ _ (by exact hu.ext (by exact (Below.refl _ _).drew)) (by exact hT.below (by exact (Below.refl _ _).drew))).mono ?_; rintro e w1 ⟨r1, rfl, hr1, hw1⟩; have ex1 : Ext W w1 := Ext.trans (by exact (Below.refl _ _).drew) hw1; obtain ⟨xb, xn, xo, xk, xc, xe, rfl⟩ := hr1.parts; have fb := hby.ext ex1; have h0 := fb.c0; have h1 := fb.c1; have h2 := fb.c2; have h3 := fb.c3)
      | (go_at_call 207; refine (dnormal_any _ _ _ (by exact hv.ext ex1) (by exact hT.below ex1)).mono ?_; rintro e w2 ⟨r2, rfl, hr2, hw2⟩; have ex2 : Ext W w2 := Ext.trans ex1 hw2; obtain ⟨yb, yn, yo, yk, yc, ye, rfl⟩ := hr2.parts; have hr1 := hr1.ext hw2; clear h0 h1 h2 h3; have fa := hbx.ext ex2; have fb := hby.ext ex2; have a0 := fa.c0; have a1 := fa.c1; have a2 := fa.c2; have a3 := fa.c3; have b0 := fb.c0; have b1 := fb.c1; have b2 := fb.c2; have b3 := fb.c3; have g0 := fa.f 0; have g1 := fa.f 1; have g2 := fa.f 2; have g3 := fa.f 3; have h0 := fb.f 0; have h1 := fb.f 1; have h2 := fb.f 2; have h3 := fb.f 3))
    all_goals
      go_wp2
      go_meet
    all_goals
      clear a0 a1 a2 a3 b0 b1 b2 b3 g0 g1 g2 g3 h0 h1 h2 h3 k0 k1 k2 k3 l0 l1 l2 l3
      obtain ⟨hB2, hB2'⟩ := bnext hB (by omega) ex2
      obtain ⟨Z, hZ, z1, z2, z3, z4, z5, z6, z7⟩ := two_dyads fa fb (by omega) (Nat.le_refl B) (Nat.le_succ B) hr1 hr2 hB2
      rw [← hZ]
      exact ⟨_, _, _, _, _, _, _, _, _, _, _, _, z1, z2, z4, z5, z3, fun k hk1 hk2 => by rw [z6 k (by omega) (by omega)]; exact Below.block ex2 k hk2, by rw [z7]; exact Below.size ex2⟩
  case rest =>
    obtain ⟨xb, xn, xo, xk, xc, xe, yb, yn, yo, yk, yc, ye, hx, hy, bx, bY, hB1, hkeep, hzc⟩ := hcut
    have hT1 := (show Table w from HT0.out).below (w' := wc) (by rw [HBe.out]; exact hB1)
    have HT := Lib.hid hT1
    have hzz : B + 2 ≤ wc.heap.size := by omega
    clear hT1 hbx hby hu hv hT hB hkeep
    have k0 := bx.c0
    have k1 := bx.c1
    have k2 := bx.c2
    have k3 := bx.c3
    have l0 := bY.c0
    have l1 := bY.c1
    have l2 := bY.c2
    have l3 := bY.c3
    cases d with
    | none =>
      obtain rfl := dn_none hx
      go_wp2
      go_ret2
      refine ⟨Or.inl ⟨Or.inl rfl, rfl⟩, ?_⟩
      show Below _ _ _; rw [HBe.out]; exact hB1
    | some p =>
      obtain ⟨m, f⟩ := p
      obtain ⟨rfl, rfl, hm⟩ := dn_some hx
      cases d' with
      | none =>
        obtain rfl := dn_none hy
        go_wp2
        go_ret2
        refine ⟨Or.inl ⟨Or.inr rfl, rfl⟩, ?_⟩
        show Below _ _ _; rw [HBe.out]; exact hB1
      | some q =>
        obtain ⟨m', f'⟩ := q
        obtain ⟨rfl, rfl, hm'⟩ := dn_some hy
        have hn1 := hx.1
        have hn2 := hy.1
        have hnx := nd_blen hn1
        have hny := nd_blen hn2
        simp only [dm, dx, Option.getD_some] at hnx hny
        obtain ⟨hnx, hx0, hx1⟩ := hnx
        obtain ⟨hny, hy0, hy1⟩ := hny
        have gm := bn_bg_of hm (by omega)
        have gm' := bn_bg_of hm' (by omega)
        have hcells : ∀ wx, Ext wc wx → (wx.cell? ⟨B, 0, none⟩ = some (.bool false) ∧ wx.cell? ⟨B, 1, none⟩ = some (.bool xn) ∧ wx.cell? ⟨B, 2, none⟩ = some (.slice xo xk xc) ∧ wx.cell? ⟨B, 3, none⟩ = some (.int .i64 xe)) ∧
            (wx.cell? ⟨B + 1, 0, none⟩ = some (.bool false) ∧ wx.cell? ⟨B + 1, 1, none⟩ = some (.bool yn) ∧ wx.cell? ⟨B + 1, 2, none⟩ = some (.slice yo yk yc) ∧ wx.cell? ⟨B + 1, 3, none⟩ = some (.int .i64 ye)) := fun wx h =>
          ⟨⟨(bx.ext h).c0, (bx.ext h).c1, (bx.ext h).c2, (bx.ext h).c3⟩, ⟨(bY.ext h).c0, (bY.ext h).c1, (bY.ext h).c2, (bY.ext h).c3⟩⟩
        have HC := Lib.hid hcells; clear hcells hx hy bx bY
        have ex0 : Ext wc wc.drew := (Below.refl _ _).drew
        have hsx := sgn3_bd m 0
        have hsy := sgn3_bd m' 0
        obtain ⟨sx, hsx'⟩ : ∃ sx, sgn3 m 0 = sx := ⟨_, rfl⟩
        obtain ⟨sy, hsy'⟩ : ∃ sy, sgn3 m' 0 = sy := ⟨_, rfl⟩
        rw [hsx'] at hsx
        rw [hsy'] at hsy
        have HSX := Lib.hid hsx'; clear hsx'
        have HSY := Lib.hid hsy'; clear hsy'
        go_upto_region 4 with fail
        go_region_held3 (fun wx => (wx.cell? ⟨B, 0, none⟩ = some (.bool false) ∧ wx.cell? ⟨B, 1, none⟩ = some (.bool xn) ∧ wx.cell? ⟨B, 2, none⟩ = some (.slice xo xk xc) ∧ wx.cell? ⟨B, 3, none⟩ = some (.int .i64 xe)) ∧
            (wx.cell? ⟨B + 1, 0, none⟩ = some (.bool false) ∧ wx.cell? ⟨B + 1, 1, none⟩ = some (.bool yn) ∧ wx.cell? ⟨B + 1, 2, none⟩ = some (.slice yo yk yc) ∧ wx.cell? ⟨B + 1, 3, none⟩ = some (.int .i64 ye)))
          (first | exact HC.out _ (by assumption))
          (first
            | (go_at_call 83; refine (sign_any _ _ _ _ _ _ (by exact gm.below ex0)).mono ?_; rintro e w1 ⟨rfl, hw1⟩; rw [HSX.out]; have ex1 : Ext wc w1 := ex0.trans hw1)
            | (go_at_call 83; refine (sign_any _ _ _ _ _ _ (by exact gm'.below ex1)).mono ?_; rintro e w2 ⟨rfl, hw2⟩; rw [HSY.out]; have ex2 : Ext wc w2 := ex1.trans hw2))
        clear k0 k1 k2 k3 l0 l1 l2 l3 ex0 ex1 hw1 hw2
        obtain ⟨⟨k0, k1, k2, k3⟩, l0, l1, l2, l3⟩ := HC.out _ ex2
        have gm2 := gm.below ex2
        have gm2' := gm'.below ex2
        have hm2 := hm.below ex2
        have hm2' := hm'.below ex2
        have hzw := Below.size ex2
        have hB2 := (bnext hB1 (by omega) ex2).1
        have hB2' := hB2.size
        clear gm gm' hm hm' w1
        by_cases hne : sx = sy
        · have hneb : (sx != sy) = false := by simp [hne]
          obtain ⟨tx, htx⟩ : ∃ tx : Int, xe + (blen m.natAbs : Int) = tx := ⟨_, rfl⟩
          obtain ⟨ty, hty⟩ : ∃ ty : Int, ye + (blen m'.natAbs : Int) = ty := ⟨_, rfl⟩
          have HTX := Lib.hid htx; clear htx
          have HTY := Lib.hid hty; clear hty
          have htb := sgn3_bd tx ty
          obtain ⟨c, hc'⟩ : ∃ c, sgn3 tx ty = c := ⟨_, rfl⟩
          rw [hc'] at htb
          have HCC := Lib.hid hc'; clear hc'
          have HNE := Lib.hid hne; clear hne
          go_upto_region 7 with fail
          have ex3 : Ext w2 w2.drew := (Below.refl _ _).drew
          go_region_held3 (fun wx => (wx.cell? ⟨B, 0, none⟩ = some (.bool false) ∧ wx.cell? ⟨B, 1, none⟩ = some (.bool xn) ∧ wx.cell? ⟨B, 2, none⟩ = some (.slice xo xk xc) ∧ wx.cell? ⟨B, 3, none⟩ = some (.int .i64 xe)) ∧
            (wx.cell? ⟨B + 1, 0, none⟩ = some (.bool false) ∧ wx.cell? ⟨B + 1, 1, none⟩ = some (.bool yn) ∧ wx.cell? ⟨B + 1, 2, none⟩ = some (.slice yo yk yc) ∧ wx.cell? ⟨B + 1, 3, none⟩ = some (.int .i64 ye)))
            (first | exact HC.out _ (ex2.trans (by assumption)))
            (first
              | (go_at_call 224; refine (dtop_any _ _ _ _ _ _ _ _ (by exact gm2.below ex3) (by omega) (by omega)).mono ?_; rintro e w3 ⟨rfl, hw3⟩; rw [HTX.out]; have ex4 : Ext w2 w3 := ex3.trans hw3)
              | (go_at_call 224; refine (dtop_any _ _ _ _ _ _ _ _ (by exact gm2'.below ex4) (by omega) (by omega)).mono ?_; rintro e w4 ⟨rfl, hw4⟩; rw [HTY.out]; have ex5 : Ext w2 w4 := ex4.trans hw4)
              | (go_at_call 228; refine (cmpInt_any _ _ _).mono ?_; rintro e w5 ⟨rfl, rfl⟩; rw [HCC.out]))
          clear k0 k1 k2 k3 l0 l1 l2 l3 ex3 ex4 hw3 hw4
          obtain ⟨⟨k0, k1, k2, k3⟩, l0, l1, l2, l3⟩ := HC.out _ (ex2.trans ex5)
          have hB3 := (bnext hB2 (by omega) ex5).1
          have hm3 := hm2.below ex5
          have hm3' := hm2'.below ex5
          by_cases hc0 : c = 0
          · subst hc0
            have hcb : ((0 : Int) != 0) = false := rfl
            go_wp2_with fail
            refine (aligned_any _ _ _ _ _ _ _ _ _ _ _ _ _ hm3 hm3' hn1 hn2).mono ?_
            rintro e w6 ⟨an, ao', ak, ac, bn, bo', bk, bc, X, Y, E, rfl, hX, hY, hAl, hw6⟩
            obtain ⟨hB4, hB4'⟩ := bnext hB3 (by have := Below.size ex5; omega) hw6
            go_upto_region 11 with fail
            obtain ⟨V, hV, hv, e1, e2⟩ := boxes_bb w6 an ao' ak ac bn bo' bk bc
            rw [← hV]
            clear hV k0 k1 k2 k3 l0 l1 l2 l3
            have hX := hX.below hv
            have hY := hY.below hv
            obtain ⟨hB5, hB5'⟩ := bnext hB4 hB4' hv
            have k0 := e1.c0
            have k1 := e1.c1
            have l0 := e2.c0
            have l1 := e2.c1
            generalize w6.heap.size = D at *
            have hres : sgn3 X Y = sgn3 (sc (some (m, xe))) (sc (some (m', ye))) := by
              obtain ⟨_, _, h2, h3, _⟩ := hAl
              rw [h2, h3, sgn3_common]
            have HRES := Lib.hid hres; clear hres hAl
            go_wp2_with fail
            refine (cmp_any _ _ _ _ _ _ _ _ _ _ _ hX hY).mono ?_
            rintro e w7 ⟨rfl, hw7⟩
            rw [HRES.out]
            go_wp2
            go_ret2
            refine ⟨Or.inr ⟨by simp, by simp, rfl⟩, ?_⟩
            show Below _ _ _; rw [HBe.out]; exact (bnext hB5 hB5' hw7).1
          · have hcb : (c != 0) = true := by simpa using hc0
            have hres : wrap64 (sx * c) = sgn3 (sc (some (m, xe))) (sc (some (m', ye))) := by
              have hw : wrap64 (sx * c) = sx * c := by
                have a : sx = -1 ∨ sx = 0 ∨ sx = 1 := by omega
                have b : c = -1 ∨ c = 0 ∨ c = 1 := by omega
                clear HSX HCC
                rcases a with rfl | rfl | rfl <;> rcases b with rfl | rfl | rfl <;> (unfold wrap64; omega)
              rw [hw]
              rw [← HSX.out, ← HCC.out, ← HTX.out, ← HTY.out]
              refine cmp_tops hn1 hn2 (by rw [HSX.out, HSY.out]; exact HNE.out) ?_
              intro h
              rw [HTX.out, HTY.out] at h
              have := HCC.out
              rw [h] at this
              simp [sgn3] at this
              omega
            have HRES := Lib.hid hres; clear hres
            go_wp2_with fail
            go_wp2
            go_ret2
            refine ⟨Or.inr ⟨by simp, by simp, ?_⟩, ?_⟩
            · rw [← HRES.out]; rfl
            · show Below _ _ _; rw [HBe.out]; exact hB3
        · have hneb : (sx != sy) = true := by simpa using hne
          have hres : sgn3 sx sy = sgn3 (sc (some (m, xe))) (sc (some (m', ye))) := by
            have h1 := sc_sign m xe
            have h2 := sc_sign m' ye
            rw [HSX.out] at h1
            rw [HSY.out] at h2
            rw [← h1, ← h2]
            exact cmp_signs (by rw [h1, h2]; exact hne)
          have HRES := Lib.hid hres; clear hres
          have HNE := Lib.hid hne; clear hne
          go_wp2_with fail
          refine (cmpInt_any _ _ _).mono ?_
          rintro e w3 ⟨rfl, rfl⟩
          rw [HRES.out]
          go_wp2
          go_ret2
          refine ⟨Or.inr ⟨by simp, by simp, rfl⟩, ?_⟩
          show Below _ _ _; rw [HBe.out]; exact hB2
end Go.Proofs.YtolghagbpnjpgaaGreatDoor

namespace Go.Proofs.YtolghagbpnjpgaaGreatDoor

/-- the multiples of 2^(k+1) around x, which is none of them -/
structure Around (x : Int) (p k : Nat) (q r : Int) : Prop where
  eq : x = q * 2 ^ (k + 1) + r
  pos : 0 < r
  lt : r < 2 ^ (k + 1)
  lo : -2 ^ p ≤ q
  hi : q + 1 ≤ 2 ^ p

theorem is_eq {d d' : Dy} {S : Nat} {N M : Int} (h : Is d S N) (h' : Is d' S M) : d = d' ↔ N = M := by
  constructor
  · rintro rfl
    obtain ⟨m, e, h1, _, _, rfl⟩ := h
    obtain ⟨m', e', h1', _, _, rfl⟩ := h'
    rw [h1] at h1'
    cases h1'
    rfl
  · rintro rfl
    exact h.unique h'

theorem is_cmp {d d' : Dy} {S : Nat} {N M : Int} (h : Is d S N) (h' : Is d' S M) (hS : S ≤ 65536) : sgn3 (sc d) (sc d') = sgn3 N M := by
  rw [sc_is h hS, sc_is h' hS]
  exact sgn3_common
end Go.Proofs.YtolghagbpnjpgaaGreatDoor

namespace Go.Proofs.YtolghagbpnjpgaaGreatDoor
open Go.RowKit

/-- a float's number -/
def fdy (f : Nat) : Dy := if finB f then dmk (fzs f) (-1074) else none

/-- its parts -/
theorem fdy_parts {f t : Nat} (hf : finB f = true) (h0 : sig f ≠ 0) (ht : IsTz (sig f) t) : fdy f = some (if fneg f then -((sig f / 2 ^ t : Nat) : Int) else ((sig f / 2 ^ t : Nat) : Int), -1074 + (fsh f : Int) + t) ∧ sig f / 2 ^ t < 9007199254740992 ∧ sig f / 2 ^ t ≠ 0 := by
  rcases ht with ⟨h, _⟩ | ⟨_, m, hm⟩
  · exact absurd h h0
  · have hp : 0 < 2 ^ t := Nat.pow_pos (by omega)
    have hd : sig f / 2 ^ t = 2 * m + 1 := by rw [hm, Nat.mul_div_cancel_left _ hp]
    have hlt : sig f / 2 ^ t < 9007199254740992 := Nat.lt_of_le_of_lt (Nat.div_le_self _ _) (sig_lt f)
    refine ⟨?_, hlt, by omega⟩
    rw [hd] at hlt ⊢
    have hfin : fmag f < 9218868437227405312 := of_decide_eq_true hf
    have hsh : fsh f ≤ 2045 := by unfold fsh ffld; omega
    have ht52 : t < 53 := by
      have h1 : 2 ^ t < 2 ^ 53 := by
        have h2 : 2 ^ t ≤ sig f := by rw [hm]; exact Nat.le_mul_of_pos_right _ (by omega)
        exact Nat.lt_of_le_of_lt h2 (sig_lt f)
      exact (Nat.pow_lt_pow_iff_right (by omega)).1 h1
    have hz : fz f = (2 * m + 1) * 2 ^ (t + fsh f) := by rw [Nat.pow_add, ← Nat.mul_assoc, Nat.mul_comm (2 * m + 1), ← hm]; rfl
    have hc : ((fz f : Nat) : Int) = ((2 * m + 1 : Nat) : Int) * 2 ^ (t + fsh f) := by rw [hz, Int.natCast_mul, Int.natCast_pow]; rfl
    have hv : fzs f = (if fneg f then -((2 * m + 1 : Nat) : Int) else ((2 * m + 1 : Nat) : Int)) * 2 ^ (t + fsh f) := by
      unfold fzs
      rw [hc]
      cases fneg f
      · rfl
      · simp only [if_true]; rw [Int.neg_mul]
    have hb : blen (2 * m + 1) ≤ 53 := blen_le_of_lt (show 2 * m + 1 < 2 ^ 53 from hlt)
    unfold fdy
    rw [hf, if_pos rfl, hv, dmk_shift]
    rw [show (-1074 : Int) + ((t + fsh f : Nat) : Int) = -1074 + (fsh f : Int) + t by omega]
    refine dmk_norm (Or.inr ⟨?_, by omega, ?_⟩)
    · split <;> omega
    · have e1 : (if fneg f then -((2 * m + 1 : Nat) : Int) else ((2 * m + 1 : Nat) : Int)).natAbs = 2 * m + 1 := by split <;> omega
      rw [e1]
      omega

theorem fdy_zero {f : Nat} (h : zeroB f = true) : fdy f = some (0, 0) := by
  have h1 : fmag f = 0 := of_decide_eq_true h
  have h2 : fz f = 0 := (fz_zero f).2 h1
  unfold fdy finB fzs
  rw [decide_eq_true (by omega), if_pos rfl, h2]
  have : (if fneg f then -((0 : Nat) : Int) else ((0 : Nat) : Int)) = 0 := by split <;> rfl
  rw [this, dmk_zero]

theorem fz_bound {f : Nat} (h : finB f = true) : fz f < 2 ^ (52 + low46) := by
  rw [Nat.pow_add, ← fz_inf, ← fz_mag f]
  exact fz_lt (of_decide_eq_true h) (Nat.le_refl _)
theorem low46_le : 52 + low46 = 2098 := rfl
theorem fzs_abs (f : Nat) : (fzs f).natAbs = fz f := by unfold fzs; split <;> omega
theorem fdy_is {f : Nat} (h : finB f = true) : Is (fdy f) 1074 (fzs f) := by
  unfold fdy
  rw [h, if_pos rfl]
  exact Is.of_dmk (S := 1074) (B := 52 + low46) (by omega) (by rw [fzs_abs]; exact fz_bound h) (by rw [low46_le]; omega)

/-- two numbers of floats compare as the floats do -/
theorem fin_nan {f : Nat} (h : finB f = true) : nanB f = false := by
  have h1 : fmag f < 9218868437227405312 := of_decide_eq_true h
  exact decide_eq_false (by omega)
theorem fdy_rank {a b : Nat} (ha : finB a = true) (hb : finB b = true) : sgn3 (sc (fdy a)) (sc (fdy b)) = sgn3 (frank a) (frank b) := by
  rw [is_cmp (fdy_is ha) (fdy_is hb) (by omega), ← fs_fzs, ← fs_fzs]
  obtain ⟨h1, h2⟩ := fs_rank (T := 1074) (fin_nan ha) (fin_nan hb)
  unfold sgn3
  by_cases c1 : fs a 1074 < fs b 1074
  · rw [if_pos c1, if_pos (h1.1 c1)]
  · rw [if_neg c1, if_neg (fun h => c1 (h1.2 h))]
    by_cases c2 : fs a 1074 = fs b 1074
    · rw [if_neg (by omega), if_neg (by have := h2.1 c2; omega)]
    · have c3 : frank a ≠ frank b := fun h => c2 (h2.2 h)
      have c4 : ¬ frank a < frank b := fun h => c1 (h1.2 h)
      rw [if_pos (by omega), if_pos (by omega)]
theorem fdy_some {f : Nat} (h : finB f = true) : fdy f ≠ none := by
  obtain ⟨m, e, h1, _⟩ := fdy_is h
  rw [h1]; simp
end Go.Proofs.YtolghagbpnjpgaaGreatDoor

namespace Go.Proofs.YtolghagbpnjpgaaGreatDoor
open Go.RowKit

/-- the table that bits.TrailingZeros64 reads -/
def Table64 (w : World) : Prop := TabAt 2 Lib.deBruijn64tab w
theorem Table64.below {w w' : World} (h : Table64 w) (hb : Below w.heap.size w w') : Table64 w' := by
  intro j hj
  have h1 := h j hj
  rw [hb.cell (p := ⟨_, j, none⟩) (lt_of_cell h1)]
  exact h1

set_option maxRecDepth 100000 in
set_option maxHeartbeats 1000000 in
theorem tz64_at (x k idx : Nat) (w : World) (hx0 : ((x : Int) == 0) = false)
    (key : IntKind.u64.wrap (bits BinOp.and IntKind.u64 (x : Int) (IntKind.u64.wrap (-(x : Int))) * 285870213051353865) / 288230376151711744 = (idx : Int))
    (hi : idx < 64) (hk : k < 64) (hcell : w.cell? ⟨2, idx, none⟩ = some (.int .u8 k)) :
    Calls Tryz.prog 174 #[.int .u64 x] w fun e w' => e = .returned (.int .i64 k) ∧ w = w' := by
  go_enter Tryz.func174, Tryz.ntmps174
  go_wp2_with (simp only [key])
  go_ret
  exact ⟨rfl, rfl⟩

theorem tz64_any (x : Nat) (h0 : x ≠ 0) (h1 : x < 18446744073709551616) (w : World) (hT : Table64 w) :
    Calls Tryz.prog 174 #[.int .u64 x] w fun e w' => ∃ t : Nat, e = .returned (.int .i64 (t : Int)) ∧ IsTz x t ∧ t < 64 ∧ w = w' := by
  obtain ⟨hlow, hk⟩ := Lib.lowest_bit 64 x h0 h1
  obtain ⟨hi, htab⟩ := Lib.deBruijn64_at _ hk
  have hcell := hT _ hi
  rw [htab] at hcell
  refine (tz64_at x _ _ w (by simp; omega) (tz64_key x _ h1 h0 hlow) hi hk hcell).mono fun e w' ⟨he, hw⟩ => ⟨_, he, ?_, hk, hw⟩
  have hc : Lib.ctz 64 x = Lib.ctzFrom 64 x := by unfold Lib.ctz; rw [if_neg h0]
  obtain ⟨m, hm, hlt⟩ := Lib.ctzFrom_spec 64 x (by omega) (by omega)
  rw [hc]
  exact Or.inr ⟨h0, m, hm⟩

set_option maxRecDepth 100000 in
set_option maxHeartbeats 4000000 in
theorem fof_any (f : Nat) (hf : f < 18446744073709551616) (w : World) (hT : Table64 w) :
    Calls Tryz.prog 122 #[.int .u64 (f : Int)] w fun e w' => ∃ v, e = .returned v ∧ Dn w' v (fdy f) ∧ Ext w w' := by
  have CF := Lib.hid (fun w => isFinite_any f hf w)
  have CZ := Lib.hid (fun w => isZero_any f hf w)
  have CS := Lib.hid (fun w => fsplit_any f hf w)
  have CN := Lib.hid (fun w => isNegative_any f hf w)
  have HT := Lib.hid hT
  clear hT
  cases hfin : finB f with
  | false =>
    rw [hfin] at CF
    have HD := Lib.hid (show fdy f = none by unfold fdy; rw [hfin]; rfl)
    clear hfin
    go_enter Tryz.func122, Tryz.ntmps122
    go_upto_region 1 with fail
    obtain ⟨W, hW, hB, r1, hz⟩ := dbox_new w false false none 0 0 0
    rw [← hW]
    clear hW
    generalize hBe : w.heap.size = B at *
    have HBe := Lib.hid hBe
    clear hBe hz
    go_wp2_with fail
    refine (CF.out _).mono ?_
    rintro e w1 ⟨rfl, rfl⟩
    have q0 := r1.c0
    have q1 := r1.c1
    have q2 := r1.c2
    have q3 := r1.c3
    have f0 := r1.f 0
    have f1 := r1.f 1
    have f2 := r1.f 2
    have f3 := r1.f 3
    have hres := dn_stored r1 (dn_bad W) w hB (Nat.le_refl _)
    have z3 := r1.stored true false none 0 0 0
    have z0 := z3.c0
    have z1 := z3.c1
    have z2 := z3.c2
    have z4 := z3.c3
    have HRES := Lib.hid hres; clear hres z3
    go_wp2
    refine bodyPost_ret (v := .agg #[.bool true, .bool false, .slice none 0 0, .int .i64 0]) (by simp [results, Tryz.results122, go_sem, z0, z1, z2, z4]) rfl ⟨_, rfl, ?_, ?_⟩
    · rw [HD.out]; exact HRES.out.1
    · show Below _ _ _; rw [HBe.out]; exact HRES.out.2
  | true =>
    rw [hfin] at CF
    cases hzr : zeroB f with
    | true =>
      rw [hzr] at CZ
      have HD := Lib.hid (fdy_zero hzr)
      clear hfin hzr
      go_enter Tryz.func122, Tryz.ntmps122
      go_upto_region 1 with fail
      obtain ⟨W, hW, hB, r1, hz⟩ := dbox_new w false false none 0 0 0
      rw [← hW]
      clear hW
      generalize hBe : w.heap.size = B at *
      have HBe := Lib.hid hBe
      clear hBe hz
      go_wp2_with fail
      refine (CF.out _).mono ?_
      rintro e w1 ⟨rfl, rfl⟩
      go_wp2_with fail
      refine (CZ.out _).mono ?_
      rintro e w1 ⟨rfl, rfl⟩
      have q0 := r1.c0
      have q1 := r1.c1
      have q2 := r1.c2
      have q3 := r1.c3
      have f0 := r1.f 0
      have f1 := r1.f 1
      have f2 := r1.f 2
      have f3 := r1.f 3
      have hres := dn_stored r1 (dn_zero W) w hB (Nat.le_refl _)
      have z3 := r1.stored false false none 0 0 0
      have z0 := z3.c0
      have z1 := z3.c1
      have z2 := z3.c2
      have z4 := z3.c3
      have HRES := Lib.hid hres; clear hres z3
      go_wp2
      refine bodyPost_ret (v := .agg #[.bool false, .bool false, .slice none 0 0, .int .i64 0]) (by simp [results, Tryz.results122, go_sem, z0, z1, z2, z4]) rfl ⟨_, rfl, ?_, ?_⟩
      · rw [HD.out]; exact HRES.out.1
      · show Below _ _ _; rw [HBe.out]; exact HRES.out.2
    | false =>
      rw [hzr] at CZ
      have hs0 : sig f ≠ 0 := fun h => by have h1 := (sig_zero f).1 h; unfold zeroB at hzr; rw [h1] at hzr; simp at hzr
      have hsl := sig_lt f
      have hsh : fsh f ≤ 2045 := by have h1 : fmag f < 9218868437227405312 := of_decide_eq_true hfin; unfold fsh ffld; omega
      have CT := Lib.hid (fun w (h : Table64 w) => tz64_any (sig f) hs0 (by omega) w h)
      have HP := Lib.hid (fun t (ht : IsTz (sig f) t) => fdy_parts hfin hs0 ht)
      clear hfin hzr hs0
      have HND := Lib.hid (show Nd (fdy f) by unfold fdy; split; exact dmk_nd _ _; trivial)
      generalize fdy f = d at *
      generalize fsh f = sh at *
      generalize sig f = z at *
      obtain ⟨ng, hng⟩ : ∃ ng, fneg f = ng := ⟨_, rfl⟩
      rw [hng] at HP CN
      clear hng
      go_enter Tryz.func122, Tryz.ntmps122
      go_upto_region 1 with fail
      obtain ⟨W, hW, hB, r1, hz⟩ := dbox_new w false false none 0 0 0
      rw [← hW]
      clear hW
      have HTW := Lib.hid (HT.out.below hB)
      generalize hBe : w.heap.size = B at *
      have HBe := Lib.hid hBe
      clear hBe
      go_wp2_with fail
      refine (CF.out _).mono ?_
      rintro e w1 ⟨rfl, rfl⟩
      go_wp2_with fail
      refine (CZ.out _).mono ?_
      rintro e w1 ⟨rfl, rfl⟩
      go_wp2_with fail
      refine (CS.out _).mono ?_
      rintro e w2 ⟨rfl, hE⟩
      have r2 := r1.below hE
      have b2 : Below B w w2 := hB.trans (Below.mono hE (by omega))
      have ht2 := HTW.out.below hE
      have hs2 := Below.size hE
      clear r1 hB hE
      go_upto_region 6 with fail
      obtain ⟨V, hV, hC, x3, hz3⟩ := nbox_new w2 0 (z : Int) (-1074 + (sh : Int)) false
      rw [← hV]
      clear hV
      have r3 := r2.below hC
      have b3 : Below B w V := b2.trans (Below.mono hC (by omega))
      have HT3 := Lib.hid (ht2.below hC)
      have hBC : B ≠ w2.heap.size := by omega
      generalize w2.heap.size = C at *
      clear r2 b2 ht2 hs2 hC hz3 hz
      have c1 := x3.c1
      have c2 := x3.c2
      go_wp2_with fail
      refine (CT.out _ HT3.out).mono ?_
      rintro e w3 ⟨t, rfl, ht, ht64, rfl⟩
      obtain ⟨hd, hm1, hm0⟩ := HP.out t ht
      have hsr : (z : Int) / 2 ^ t = ((z / 2 ^ t : Nat) : Int) := (cast_divpow _ _).symm
      generalize z / 2 ^ t = y at *
      have hwy : IntKind.i64.wrap (y : Int) = (y : Int) := by rw [IntKind.wrap_i64]; omega
      have HDD := Lib.hid hd
      have HT3 := Lib.hid ht
      clear hd HP ht
      have hsum : IntKind.i64.wrap (-1074 + (sh : Int) + (t : Int)) = -1074 + (sh : Int) + (t : Int) := by rw [IntKind.wrap_i64]; omega
      cases ng with
      | false =>
        simp only [Bool.false_eq_true, if_false] at HDD
        go_wp2_with fail
        refine (CN.out _).mono ?_
        rintro e w4 ⟨rfl, rfl⟩
        go_upto_region 10 with fail
        go_region_with (go_at_call 144; refine (fromInt_any ((y : Int)) _ (by omega) (by omega)).mono ?_; rintro e w5 ⟨nr, ro, k, cr, rfl, hbn, hE5⟩; have x5 := (NBox.drew x3).below hE5; have r5 := (DBox.drew r3).below hE5; have b5 : Below B w w5 := Below.trans (Below.drew b3) (Below.mono hE5 (by have := r3.lt; simp; omega)); have c1 := x5.c1; have c2 := x5.c2; have f0 := r5.f 0; have f1 := r5.f 1; have f2 := r5.f 2; have f3 := r5.f 3; have q0 := r5.c0; have q1 := r5.c1; have q2 := r5.c2; have q3 := r5.c3)
        all_goals
          have hdn : Dn w5 (.agg #[.bool false, .bool nr, .slice ro k cr, .int .i64 (-1074 + (sh : Int) + (t : Int))]) d := by
            rw [HDD.out]
            refine Dn.put (by rw [← HDD.out]; exact HND.out) rfl rfl hbn
          have hres := dn_stored r5 hdn w b5 (Nat.le_refl _)
          have z3 := r5.stored false nr ro k cr (-1074 + (sh : Int) + (t : Int))
          have z0 := z3.c0
          have z1 := z3.c1
          have z2 := z3.c2
          have z4 := z3.c3
          have HRES := Lib.hid hres
          clear hres z3 hdn c1 c2 x5 r5 b5
          go_wp2
          refine bodyPost_ret (v := .agg #[.bool false, .bool nr, .slice ro k cr, .int .i64 (-1074 + (sh : Int) + (t : Int))]) (by simp [results, Tryz.results122, go_sem, z0, z1, z2, z4]) rfl ⟨_, rfl, ?_, ?_⟩
          · exact HRES.out.1
          · show Below _ _ _
            rw [HBe.out]
            exact HRES.out.2
      | true =>
        simp only [if_true] at HDD
        go_wp2_with fail
        refine (CN.out _).mono ?_
        rintro e w4 ⟨rfl, rfl⟩
        go_upto_region 10 with fail
        go_region_with (go_at_call 144; refine (fromInt_any (-(y : Int)) _ (by omega) (by omega)).mono ?_; rintro e w5 ⟨nr, ro, k, cr, rfl, hbn, hE5⟩; have x5 := (NBox.drew x3).below hE5; have r5 := (DBox.drew r3).below hE5; have b5 : Below B w w5 := Below.trans (Below.drew b3) (Below.mono hE5 (by have := r3.lt; simp; omega)); have c1 := x5.c1; have c2 := x5.c2; have f0 := r5.f 0; have f1 := r5.f 1; have f2 := r5.f 2; have f3 := r5.f 3; have q0 := r5.c0; have q1 := r5.c1; have q2 := r5.c2; have q3 := r5.c3)
        all_goals
          have hdn : Dn w5 (.agg #[.bool false, .bool nr, .slice ro k cr, .int .i64 (-1074 + (sh : Int) + (t : Int))]) d := by
            rw [HDD.out]
            refine Dn.put (by rw [← HDD.out]; exact HND.out) rfl rfl hbn
          have hres := dn_stored r5 hdn w b5 (Nat.le_refl _)
          have z3 := r5.stored false nr ro k cr (-1074 + (sh : Int) + (t : Int))
          have z0 := z3.c0
          have z1 := z3.c1
          have z2 := z3.c2
          have z4 := z3.c3
          have HRES := Lib.hid hres
          clear hres z3 hdn c1 c2 x5 r5 b5
          go_wp2
          refine bodyPost_ret (v := .agg #[.bool false, .bool nr, .slice ro k cr, .int .i64 (-1074 + (sh : Int) + (t : Int))]) (by simp [results, Tryz.results122, go_sem, z0, z1, z2, z4]) rfl ⟨_, rfl, ?_, ?_⟩
          · exact HRES.out.1
          · show Below _ _ _
            rw [HBe.out]
            exact HRES.out.2
end Go.Proofs.YtolghagbpnjpgaaGreatDoor
