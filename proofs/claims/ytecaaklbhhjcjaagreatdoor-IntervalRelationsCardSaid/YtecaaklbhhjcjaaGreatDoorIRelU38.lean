import Derived.Test.YtecaaklbhhjcjaaGreatDoorIRelU19
import Derived.Test.YtecaaklbhhjcjaaGreatDoorIRelU3
import Derived.Test.YtecaaklbhhjcjaaGreatDoorIRelU26
import Derived.Test.YtecaaklbhhjcjaaGreatDoorIRelU36
import Derived.Test.YtecaaklbhhjcjaaGreatDoorIRelU18
import Derived.Test.YtecaaklbhhjcjaaGreatDoorIRelU22
import Derived.Test.YtecaaklbhhjcjaaGreatDoorIRelU25
namespace Go.Proofs.YtecaaklbhhjcjaaGreatDoor
open Go Go.RowKit

set_option maxRecDepth 100000 in
theorem refNegF_any (f : Nat) (hf : f < 18446744073709551616) (w : World) :
    Calls Tryz.prog 81 #[.int .u64 (f : Int)] w fun e w' => e = .returned (.int .u64 ((fnegF f : Nat) : Int)) ∧ w = w' := by
  have ha := xor_sign hf
  have hcall := fun b hb => refNan_any f hf b hb
  unfold fnegF
  generalize sgz (!fneg f) + fmag f = v at *
  cases hn : nanB f
  all_goals
    have HN := Lib.hid (hcall _ hn)
    clear hn hcall hf
    go_enter Tryz.func81, Tryz.ntmps81
    go_wp2_with (first | (go_at_call 150; (with_reducible refine (HN.out _).mono ?_); rintro e w' ⟨rfl, rfl⟩))
    go_ret
    exact ⟨rfl, rfl⟩

set_option maxRecDepth 100000 in
theorem refAbsF_any (f : Nat) (hf : f < 18446744073709551616) (w : World) :
    Calls Tryz.prog 114 #[.int .u64 (f : Int)] w fun e w' => e = .returned (.int .u64 ((fabsF f : Nat) : Int)) ∧ w = w' := by
  have ha := andNot_sign hf
  have hcall := fun b hb => refNan_any f hf b hb
  unfold fabsF
  generalize fmag f = v at *
  cases hn : nanB f
  all_goals
    have HN := Lib.hid (hcall _ hn)
    clear hn hcall hf
    go_enter Tryz.func114, Tryz.ntmps114
    go_wp2_with (first | (go_at_call 150; (with_reducible refine (HN.out _).mono ?_); rintro e w' ⟨rfl, rfl⟩))
    go_ret
    exact ⟨rfl, rfl⟩

end Go.Proofs.YtecaaklbhhjcjaaGreatDoor

namespace Go.Proofs.YtecaaklbhhjcjaaGreatDoor
open Go.RowKit

set_option maxRecDepth 100000 in
set_option maxHeartbeats 4000000 in
theorem ref_dadd_any (u v : Value) (d d' : Dy) (w : World) (hu : Dl w u d) (hv : Dl w v d') (hT : Table w) :
    Calls Tryz.prog 108 #[u, v] w fun e w' => ∃ r, e = .returned r ∧ Dn w' r (dadd d d') ∧ Ext w w' := by
  have hu0 := hu
  have hv0 := hv
  obtain ⟨ub, un, uo, uk, uc, _, uf, rfl, -⟩ := hu0
  obtain ⟨vb, vn, vo, vk, vc, _, vf, rfl, -⟩ := hv0
  go_enter Tryz.func108, Tryz.ntmps108
  go_upto_region 1 with fail
  obtain ⟨W, hW, hB, hbx, hby, hrx, hz⟩ := boxes_ddd w ub un uo uk uc uf vb vn vo vk vc vf
  rw [← hW]
  clear hW
  have hu := hu.ext hB
  have hv := hv.ext hB
  have HT0 := Lib.hid hT
  have hT := hT.below hB
  generalize hBe : w.heap.size = B at *
  have HBe := Lib.hid hBe; clear hBe
  go_cut [] from 8 (fun wx => ∃ xb xn xo xk xc xe yb yn yo yk yc ye, Dn wx (.agg #[.bool xb, .bool xn, .slice xo xk xc, .int .i64 xe]) d ∧ Dn wx (.agg #[.bool yb, .bool yn, .slice yo yk yc, .int .i64 ye]) d' ∧
    DBox wx B xb xn xo xk xc xe ∧ DBox wx (B + 1) yb yn yo yk yc ye ∧ Below B w wx ∧ (∀ k, B + 1 < k → k < W.heap.size → wx.heap[k]? = W.heap[k]?) ∧ W.heap.size ≤ wx.heap.size)
  case first =>
    have k0 := hbx.c0
    have k1 := hbx.c1
    have k2 := hbx.c2
    have k3 := hbx.c3
    have l0 := hby.c0
    have l1 := hby.c1
    have l2 := hby.c2
    have l3 := hby.c3
    go_region_with (first
      | (go_at_call 101; refine (refDNorm_any _ _ _ (by exact hu.ext (by exact (Below.refl _ _).drew)) (by exact hT.below (by exact (Below.refl _ _).drew))).mono ?_; rintro e w1 ⟨r1, rfl, hr1, hw1⟩; have ex1 : Ext W w1 := Ext.trans (by exact (Below.refl _ _).drew) hw1; obtain ⟨xb, xn, xo, xk, xc, xe, rfl⟩ := hr1.parts; have fb := hby.ext ex1; have h0 := fb.c0; have h1 := fb.c1; have h2 := fb.c2; have h3 := fb.c3)
      | (go_at_call 101; refine (refDNorm_any _ _ _ (by exact hv.ext ex1) (by exact hT.below ex1)).mono ?_; rintro e w2 ⟨r2, rfl, hr2, hw2⟩; have ex2 : Ext W w2 := Ext.trans ex1 hw2; obtain ⟨yb, yn, yo, yk, yc, ye, rfl⟩ := hr2.parts; have hr1 := hr1.ext hw2; clear h0 h1 h2 h3; have fa := hbx.ext ex2; have fb := hby.ext ex2; have a0 := fa.c0; have a1 := fa.c1; have a2 := fa.c2; have a3 := fa.c3; have b0 := fb.c0; have b1 := fb.c1; have b2 := fb.c2; have b3 := fb.c3; have g0 := fa.f 0; have g1 := fa.f 1; have g2 := fa.f 2; have g3 := fa.f 3; have h0 := fb.f 0; have h1 := fb.f 1; have h2 := fb.f 2; have h3 := fb.f 3))
    all_goals
      go_wp2
      go_meet
    all_goals
      clear a0 a1 a2 a3 b0 b1 b2 b3 g0 g1 g2 g3 h0 h1 h2 h3 k0 k1 k2 k3 l0 l1 l2 l3
      obtain ⟨hB2, hB2'⟩ := bnext hB (by omega) ex2
      obtain ⟨Z, hZ, z1, z2, z3, z4, z5, z6, z7⟩ := two_dyads fa fb (by omega) (Nat.le_refl B) (Nat.le_succ B) hr1 hr2 hB2
      rw [← hZ]
      exact ⟨_, _, _, _, _, _, _, _, _, _, _, _, z1, z2, z4, z5, z3, fun k hk1 hk2 => by rw [z6 k (by omega) (by omega)]; exact Below.block ex2 k hk2, by rw [z7]; exact Below.size ex2⟩
  case rest =>
    obtain ⟨xb, xn, xo, xk, xc, xe, yb, yn, yo, yk, yc, ye, hx, hy, bx, bY, hB1, hkeep, hzc⟩ := hcut
    have hT1 := (show Table w from HT0.out).below (w' := wc) (by rw [HBe.out]; exact hB1)
    have hrx : DBox wc (B + 1 + 1) false false none 0 0 0 := by
      have := hrx
      unfold DBox at this ⊢
      rw [hkeep _ (by omega) (by omega)]; exact this
    have HT := Lib.hid hT1
    clear hT1 hbx hby hu hv hT hB hkeep
    have k0 := bx.c0
    have k1 := bx.c1
    have k2 := bx.c2
    have k3 := bx.c3
    have l0 := bY.c0
    have l1 := bY.c1
    have l2 := bY.c2
    have l3 := bY.c3
    cases d with
    | none =>
      obtain rfl := dn_none hx
      go_wp2_with fail
      refine (refBad_any _).mono ?_
      rintro e w1 ⟨rfl, hw1⟩
      have c1 := hrx.below hw1
      obtain ⟨hB2, hB2'⟩ := bnext hB1 (by omega) hw1
      have q0 := c1.c0
      have q1 := c1.c1
      have q2 := c1.c2
      have q3 := c1.c3
      have f0 := c1.f 0
      have f1 := c1.f 1
      have f2 := c1.f 2
      have f3 := c1.f 3
      have hres := dn_stored c1 (dn_bad w1) w hB2 (by omega)
      have z3 := c1.stored true false none 0 0 0
      have z0 := z3.c0
      have z1 := z3.c1
      have z2 := z3.c2
      have z4 := z3.c3
      have HRES := Lib.hid hres; clear hres z3
      go_wp2
      refine bodyPost_ret (v := .agg #[.bool true, .bool false, .slice none 0 0, .int .i64 0]) (by simp [results, Tryz.results108, go_sem, z0, z1, z2, z4]) rfl ⟨_, rfl, ?_, ?_⟩
      · exact HRES.out.1
      · show Below _ _ _; rw [HBe.out]; exact HRES.out.2
    | some p =>
      obtain ⟨m, f⟩ := p
      obtain ⟨rfl, rfl, hm⟩ := dn_some hx
      cases d' with
      | none =>
        obtain rfl := dn_none hy
        go_wp2_with fail
        refine (refBad_any _).mono ?_
        rintro e w1 ⟨rfl, hw1⟩
        have c1 := hrx.below hw1
        obtain ⟨hB2, hB2'⟩ := bnext hB1 (by omega) hw1
        have q0 := c1.c0
        have q1 := c1.c1
        have q2 := c1.c2
        have q3 := c1.c3
        have f0 := c1.f 0
        have f1 := c1.f 1
        have f2 := c1.f 2
        have f3 := c1.f 3
        have hres := dn_stored c1 (dn_bad w1) w hB2 (by omega)
        have z3 := c1.stored true false none 0 0 0
        have z0 := z3.c0
        have z1 := z3.c1
        have z2 := z3.c2
        have z4 := z3.c3
        have HRES := Lib.hid hres; clear hres z3
        go_wp2
        refine bodyPost_ret (v := .agg #[.bool true, .bool false, .slice none 0 0, .int .i64 0]) (by simp [results, Tryz.results108, go_sem, z0, z1, z2, z4]) rfl ⟨_, rfl, ?_, ?_⟩
        · exact HRES.out.1
        · show Below _ _ _; rw [HBe.out]; exact HRES.out.2
      | some q =>
        obtain ⟨m', f'⟩ := q
        obtain ⟨rfl, rfl, hm'⟩ := dn_some hy
        have hnx := hx.1
        have hny := hy.1
        clear hx hy
        go_wp2_with fail
        refine (refAlign_any _ _ _ _ _ _ _ _ _ _ _ _ _ hm hm' hnx hny).mono ?_
        rintro e w1 ⟨an, ao', ak, ac, bn, bo', bk, bc, X, Y, E, rfl, hX, hY, hAl, hak, hbk, hw1⟩
        have c1 := hrx.below hw1
        have HT := Lib.hid (HT.out.below hw1)
        obtain ⟨hB2, hB2'⟩ := bnext hB1 (by omega) hw1
        have hz1 := hw1.size
        have hE0 := hAl.1
        have hE1 := hAl.2.1
        have HAL := Lib.hid hAl
        clear k0 k1 k2 k3 l0 l1 l2 l3 hm hm' hnx hny hAl hrx hB1 bx bY hw1
        go_upto_region 5 with fail
        obtain ⟨V, hV, hv, e1, e2⟩ := boxes_bb w1 an ao' ak ac bn bo' bk bc
        rw [← hV]
        clear hV
        have hX := hX.below hv
        have hY := hY.below hv
        have c1 := c1.below hv
        have HT := Lib.hid (HT.out.below hv)
        obtain ⟨hB2, hB2'⟩ := bnext hB2 (by omega) hv
        have hz2 := hv.size
        have k0 := e1.c0
        have k1 := e1.c1
        have l0 := e2.c0
        have l1 := e2.c1
        clear hv
        generalize w1.heap.size = D at *
        have HBL := Lib.hid (show blen (X + Y).natAbs ≤ 1000000 by
          have a := blen_add X Y
          have b := HAL.out.2.2.2.2
          omega)
        go_wp2_with fail
        refine (refAdd_any _ _ _ _ _ _ _ _ _ _ _ hX hY).mono ?_
        rintro e w2 ⟨nr, ro, l, cr, rfl, hr, hw2⟩
        have hr := bn_bg_of hr HBL.out
        have c1 := c1.below hw2
        have HT := Lib.hid (HT.out.below hw2)
        obtain ⟨hB3, hB3'⟩ := bnext hB2 (by omega) hw2
        have hz3 := hw2.size
        clear k0 k1 l0 l1 hw2
        go_wp2_with fail
        refine (refMake_any _ _ _ _ _ _ _ hr HBL.out (by omega) (by omega) HT.out).mono ?_
        rintro e w3 ⟨r, rfl, hr2, hw3⟩
        rw [dadd_al HAL.out] at hr2
        have c1 := c1.below hw3
        obtain ⟨hB4, hB4'⟩ := bnext hB3 (by omega) hw3
        obtain ⟨rb, rn, ro2, rk, rc, re, rfl⟩ := hr2.parts
        have q0 := c1.c0
        have q1 := c1.c1
        have q2 := c1.c2
        have q3 := c1.c3
        have f0 := c1.f 0
        have f1 := c1.f 1
        have f2 := c1.f 2
        have f3 := c1.f 3
        have hres := dn_stored c1 hr2 w hB4 (by omega)
        have z3 := c1.stored rb rn ro2 rk rc re
        have z0 := z3.c0
        have z1 := z3.c1
        have z2 := z3.c2
        have z4 := z3.c3
        have HRES := Lib.hid hres; clear hres z3
        go_wp2
        refine bodyPost_ret (v := .agg #[.bool rb, .bool rn, .slice ro2 rk rc, .int .i64 re]) (by simp [results, Tryz.results108, go_sem, z0, z1, z2, z4]) rfl ⟨_, rfl, ?_, ?_⟩
        · exact HRES.out.1
        · show Below _ _ _; rw [HBe.out]; exact HRES.out.2

set_option maxRecDepth 100000 in
set_option maxHeartbeats 4000000 in
theorem ref_dsub_any (u v : Value) (d d' : Dy) (w : World) (hu : Dl w u d) (hv : Dl w v d') (hT : Table w) :
    Calls Tryz.prog 111 #[u, v] w fun e w' => ∃ r, e = .returned r ∧ Dn w' r (dsub d d') ∧ Ext w w' := by
  have hu0 := hu
  have hv0 := hv
  obtain ⟨ub, un, uo, uk, uc, _, uf, rfl, -⟩ := hu0
  obtain ⟨vb, vn, vo, vk, vc, _, vf, rfl, -⟩ := hv0
  go_enter Tryz.func111, Tryz.ntmps111
  go_upto_region 1 with fail
  obtain ⟨W, hW, hB, hbx, hby, hrx, hz⟩ := boxes_ddd w ub un uo uk uc uf vb vn vo vk vc vf
  rw [← hW]
  clear hW
  have hu := hu.ext hB
  have hv := hv.ext hB
  have HT := Lib.hid (hT.below hB)
  generalize hBe : w.heap.size = B at *
  have HBe := Lib.hid hBe; clear hBe hT
  have HC := Lib.hid (show ∀ wx, Ext W wx → (wx.cell? ⟨B, 0, none⟩ = some (.bool ub) ∧ wx.cell? ⟨B, 1, none⟩ = some (.bool un) ∧ wx.cell? ⟨B, 2, none⟩ = some (.slice uo uk uc) ∧ wx.cell? ⟨B, 3, none⟩ = some (.int .i64 uf)) ∧ (wx.cell? ⟨B + 1, 0, none⟩ = some (.bool vb) ∧ wx.cell? ⟨B + 1, 1, none⟩ = some (.bool vn) ∧ wx.cell? ⟨B + 1, 2, none⟩ = some (.slice vo vk vc) ∧ wx.cell? ⟨B + 1, 3, none⟩ = some (.int .i64 vf)) from fun wx h => ⟨⟨(hbx.ext h).c0, (hbx.ext h).c1, (hbx.ext h).c2, (hbx.ext h).c3⟩, (hby.ext h).c0, (hby.ext h).c1, (hby.ext h).c2, (hby.ext h).c3⟩)
  have ex0 : Ext W W.drew := (Below.refl _ _).drew
  obtain ⟨⟨k0, k1, k2, k3⟩, l0, l1, l2, l3⟩ := HC.out W (Ext.refl _)
  go_region_held3 (fun wx => (wx.cell? ⟨B, 0, none⟩ = some (.bool ub) ∧ wx.cell? ⟨B, 1, none⟩ = some (.bool un) ∧ wx.cell? ⟨B, 2, none⟩ = some (.slice uo uk uc) ∧ wx.cell? ⟨B, 3, none⟩ = some (.int .i64 uf)) ∧ (wx.cell? ⟨B + 1, 0, none⟩ = some (.bool vb) ∧ wx.cell? ⟨B + 1, 1, none⟩ = some (.bool vn) ∧ wx.cell? ⟨B + 1, 2, none⟩ = some (.slice vo vk vc) ∧ wx.cell? ⟨B + 1, 3, none⟩ = some (.int .i64 vf)))
    (first | exact HC.out _ (by assumption) | (refine ⟨⟨?_, ?_, ?_, ?_⟩, ?_, ?_, ?_, ?_⟩ <;> go_simp))
    (first
      | (go_at_call 183; refine (ref_dneg_any _ _ _ (by exact hv.ext ex0) (by exact HT.out.below ex0)).mono ?_; rintro e w3 ⟨r3, rfl, hq, hw3⟩; have ex1 : Ext W w3 := ex0.trans hw3)
      | (go_at_call 108; refine (ref_dadd_any _ _ _ _ _ (by exact hu.ext ex1) (by exact hq.dl) (HT.out.below ex1)).mono ?_; rintro e w4 ⟨r, rfl, hr2, hw4⟩; have ex2 : Ext W w4 := ex1.trans hw4; obtain ⟨rb, rn, ro2, rk, rc, re, rfl⟩ := hr2.parts; have c2 := hrx.ext ex2; have q0 := c2.c0; have q1 := c2.c1; have q2 := c2.c2; have q3 := c2.c3; have f0 := c2.f 0; have f1 := c2.f 1; have f2 := c2.f 2; have f3 := c2.f 3; obtain ⟨⟨b0, b1, b2, b3⟩, d0, d1, d2, d3⟩ := HC.out _ ex2))
  have hB3 : Below B w w4 := (bnext hB (by omega) ex2).1
  have hres := dn_stored c2 hr2 w hB3 (show B ≤ B + 1 + 1 by omega)
  have z3 := c2.stored rb rn ro2 rk rc re
  have z0 := z3.c0
  have z1 := z3.c1
  have z2 := z3.c2
  have z4 := z3.c3
  have HRES := Lib.hid hres; clear hres z3
  go_wp2
  refine bodyPost_ret (v := .agg #[.bool rb, .bool rn, .slice ro2 rk rc, .int .i64 re]) (by simp [results, Tryz.results111, go_sem, z0, z1, z2, z4]) rfl ⟨_, rfl, ?_, ?_⟩
  · exact HRES.out.1
  · show Below _ _ _; rw [HBe.out]; exact HRES.out.2
end Go.Proofs.YtecaaklbhhjcjaaGreatDoor

namespace Go.Proofs.YtecaaklbhhjcjaaGreatDoor
open Go.RowKit

theorem dscale_zero (e i : Int) (h : Nd (some (0, e))) : dscale (some (0, e)) i = some (0, e) := by
  rcases h with ⟨_, rfl⟩ | ⟨h1, _⟩
  · exact dmk_zero _
  · simp at h1
theorem dscale_far {m e i : Int} (h : Nd (some (m, e))) (h0 : m ≠ 0) (hi : 262144 < i ∨ i < -262144) : dscale (some (m, e)) i = none := by
  rcases h with ⟨h1, _⟩ | ⟨h1, h2, h3⟩
  · exact absurd h1 h0
  · have hb : 0 < blen m.natAbs := by
      have := blen_lt m.natAbs
      rcases Nat.eq_zero_or_pos (blen m.natAbs) with hz | hp
      · rw [hz] at this; omega
      · exact hp
    show dmk m _ = none
    unfold dmk
    rw [if_neg h0, tzf_odd h1, if_pos (by omega)]
theorem dscale_near {m e i : Int} (h : Nd (some (m, e))) (h0 : m ≠ 0) : dmk m (e + i) = dscale (some (m, e)) i := by
  rcases h with ⟨h1, _⟩ | ⟨h1, h2, h3⟩
  · exact absurd h1 h0
  · have hb : 0 < blen m.natAbs := by
      have := blen_lt m.natAbs
      rcases Nat.eq_zero_or_pos (blen m.natAbs) with hz | hp
      · rw [hz] at this; omega
      · exact hp
    show _ = dmk m _
    by_cases hc : -131072 ≤ i ∧ i ≤ 131072
    · rw [show max (-131072) (min i 131072) = i by omega]
    · unfold dmk
      rw [if_neg h0, if_neg h0, tzf_odd h1, if_pos (by omega), if_pos (by omega)]

set_option maxRecDepth 100000 in
set_option maxHeartbeats 4000000 in
theorem ref_dscale_any (u : Value) (d : Dy) (i : Int) (w : World) (hu : Dl w u d) (hi0 : -9223372036854775808 ≤ i) (hi1 : i ≤ 9223372036854775807) (hT : Table w) :
    Calls Tryz.prog 107 #[u, .int .i64 i] w fun e w' => ∃ r, e = .returned r ∧ Dn w' r (dscale d i) ∧ Ext w w' := by
  have hu0 := hu
  obtain ⟨ub, un, uo, uk, uc, _, uf, rfl, -⟩ := hu0
  have HTw := Lib.hid hT
  go_enter Tryz.func107, Tryz.ntmps107
  go_upto_region 1 with fail
  obtain ⟨W, hW, hB, hbx, hrx, hz⟩ := boxes_dd w ub un uo uk uc uf
  rw [← hW]
  clear hW
  have hu := hu.ext hB
  have HT := Lib.hid (hT.below hB)
  generalize hBe : w.heap.size = B at *
  have HBe := Lib.hid hBe; clear hBe hT
  have k0 := hbx.c0
  have k1 := hbx.c1
  have k2 := hbx.c2
  have k3 := hbx.c3
  go_wp2_with fail
  refine (refDNorm_any _ _ _ hu HT.out).mono ?_
  rintro e w1 ⟨r1, rfl, hr, hw1⟩
  have bx := hbx.below hw1
  have c1 := hrx.below hw1
  obtain ⟨hB1, hB1'⟩ := bnext hB (by omega) hw1
  have hz1 := hw1.size
  obtain ⟨xb, xn, xo, xk, xc, xe, rfl⟩ := hr.parts
  clear k0 k1 k2 k3 hbx hrx hB hw1 hu HT
  have k0 := bx.c0
  have k1 := bx.c1
  have k2 := bx.c2
  have k3 := bx.c3
  have f0 := bx.f 0
  have f1 := bx.f 1
  have f2 := bx.f 2
  have f3 := bx.f 3
  go_upto_region 2 with fail
  have ho := only_set4 w1 B (.bool xb) (.bool xn) (.slice xo xk xc) (.int .i64 xe)
  have hr := hr.only_dbox bx ho
  have bx := bx.stored xb xn xo xk xc xe
  have c1 := c1.only ho (by omega)
  have hB2 := hB1.trans (ho.below (B := B) (Nat.le_refl _))
  have hz2 := ho.size
  have hz3 : B + 2 ≤ ((((w1.setCell ⟨B, 0, none⟩ (.bool xb)).setCell ⟨B, 1, none⟩ (.bool xn)).setCell ⟨B, 2, none⟩ (.slice xo xk xc)).setCell ⟨B, 3, none⟩ (.int .i64 xe)).heap.size := by omega
  have hTf := HTw.out.below (w' := (((w1.setCell ⟨B, 0, none⟩ (.bool xb)).setCell ⟨B, 1, none⟩ (.bool xn)).setCell ⟨B, 2, none⟩ (.slice xo xk xc)).setCell ⟨B, 3, none⟩ (.int .i64 xe)) (by rw [HBe.out]; exact hB2)
  clear k0 k1 k2 k3 f0 f1 f2 f3 hB1 ho hz2
  generalize (((w1.setCell ⟨B, 0, none⟩ (.bool xb)).setCell ⟨B, 1, none⟩ (.bool xn)).setCell ⟨B, 2, none⟩ (.slice xo xk xc)).setCell ⟨B, 3, none⟩ (.int .i64 xe) = w2 at *
  have HT := Lib.hid hTf; clear hTf
  cases d with
  | none =>
    obtain rfl := dn_none hr
    clear HT
    have k0 := bx.c0
    have k1 := bx.c1
    have k2 := bx.c2
    have k3 := bx.c3
    have q0 := c1.c0
    have q1 := c1.c1
    have q2 := c1.c2
    have q3 := c1.c3
    have f0 := c1.f 0
    have f1 := c1.f 1
    have f2 := c1.f 2
    have f3 := c1.f 3
    have hres := dn_stored c1 hr w hB2 (by omega)
    have z3 := c1.stored true xn xo xk xc xe
    have z0 := z3.c0
    have z1 := z3.c1
    have z2 := z3.c2
    have z4 := z3.c3
    have HRES := Lib.hid hres; clear hres z3
    go_wp2
    refine bodyPost_ret (v := .agg #[.bool true, .bool xn, .slice xo xk xc, .int .i64 xe]) (by simp [results, Tryz.results107, go_sem, z0, z1, z2, z4]) rfl ⟨_, rfl, ?_, ?_⟩
    · exact HRES.out.1
    · show Below _ _ _; rw [HBe.out]; exact HRES.out.2
  | some p =>
    obtain ⟨m, f⟩ := p
    obtain ⟨rfl, rfl, hm⟩ := dn_some hr
    have hnd := hr.1
    have hnx := nd_blen hr.1
    simp only [dm, dx, Option.getD_some] at hnx
    obtain ⟨hnx, hx0, hx1⟩ := hnx
    have gm := bn_bg_of hm (by omega)
    have HND := Lib.hid hnd; clear hnd hm
    have HDN := Lib.hid hr; clear hr
    have HBL := Lib.hid (show blen m.natAbs ≤ 1000000 by omega)
    have k0 := bx.c0
    have k1 := bx.c1
    have k2 := bx.c2
    have k3 := bx.c3
    go_wp2_with fail
    refine (refSign_any _ _ _ _ _ _ gm).mono ?_
    rintro e w3 ⟨rfl, hw3⟩
    have gm := gm.below hw3
    have bx := bx.below hw3
    have c1 := c1.below hw3
    have hdn3 := HDN.out.ext hw3
    have HT := Lib.hid (HT.out.below hw3)
    obtain ⟨hB3, hB3'⟩ := bnext hB2 (by omega) hw3
    have hz4 := hw3.size
    clear k0 k1 k2 k3 HDN
    have k0 := bx.c0
    have k1 := bx.c1
    have k2 := bx.c2
    have k3 := bx.c3
    by_cases h0 : m = 0
    · have hs0 : (sgn3 m 0 == 0) = true := by simp [sgn3, h0]
      subst h0
      have HSP := Lib.hid (dscale_zero xe i HND.out)
      have q0 := c1.c0
      have q1 := c1.c1
      have q2 := c1.c2
      have q3 := c1.c3
      have f0 := c1.f 0
      have f1 := c1.f 1
      have f2 := c1.f 2
      have f3 := c1.f 3
      have hres := dn_stored c1 hdn3 w hB3 (by omega)
      have z3 := c1.stored false xn xo xk xc xe
      have z0 := z3.c0
      have z1 := z3.c1
      have z2 := z3.c2
      have z4 := z3.c3
      have HRES := Lib.hid hres; clear hres z3
      go_wp2
      refine bodyPost_ret (v := .agg #[.bool false, .bool xn, .slice xo xk xc, .int .i64 xe]) (by simp [results, Tryz.results107, go_sem, z0, z1, z2, z4]) rfl ⟨_, rfl, ?_, ?_⟩
      · rw [HSP.out]; exact HRES.out.1
      · show Below _ _ _; rw [HBe.out]; exact HRES.out.2
    · have hs0 : (sgn3 m 0 == 0) = false := by
        have : sgn3 m 0 ≠ 0 := fun h => h0 (sgn3_zero h)
        simpa using this
      have H0 := Lib.hid h0; clear h0
      clear hdn3
      by_cases hfar : 262144 < i ∨ i < -262144
      · have HSP := Lib.hid (dscale_far HND.out H0.out hfar)
        have hgo : ∀ {P : Prop}, (i > 262144 → P) → (i < -262144 → ¬ i > 262144 → P) → P := by
          intro P a b
          by_cases h : i > 262144
          · exact a h
          · exact b (by omega) h
        refine hgo ?_ ?_
        · intro hg1
          clear hgo hfar
          go_wp2_with fail
          refine (refBad_any _).mono ?_
          rintro e w4 ⟨rfl, hw4⟩
          have c1 := c1.below hw4
          obtain ⟨hB4, hB4'⟩ := bnext hB3 (by omega) hw4
          clear k0 k1 k2 k3
          have q0 := c1.c0
          have q1 := c1.c1
          have q2 := c1.c2
          have q3 := c1.c3
          have f0 := c1.f 0
          have f1 := c1.f 1
          have f2 := c1.f 2
          have f3 := c1.f 3
          have hres := dn_stored c1 (dn_bad w4) w hB4 (by omega)
          have z3 := c1.stored true false none 0 0 0
          have z0 := z3.c0
          have z1 := z3.c1
          have z2 := z3.c2
          have z4 := z3.c3
          have HRES := Lib.hid hres; clear hres z3
          go_wp2
          refine bodyPost_ret (v := .agg #[.bool true, .bool false, .slice none 0 0, .int .i64 0]) (by simp [results, Tryz.results107, go_sem, z0, z1, z2, z4]) rfl ⟨_, rfl, ?_, ?_⟩
          · rw [HSP.out]; exact HRES.out.1
          · show Below _ _ _; rw [HBe.out]; exact HRES.out.2
        · intro hg1 hg2
          clear hgo hfar
          go_wp2_with fail
          refine (refBad_any _).mono ?_
          rintro e w4 ⟨rfl, hw4⟩
          have c1 := c1.below hw4
          obtain ⟨hB4, hB4'⟩ := bnext hB3 (by omega) hw4
          clear k0 k1 k2 k3
          have q0 := c1.c0
          have q1 := c1.c1
          have q2 := c1.c2
          have q3 := c1.c3
          have f0 := c1.f 0
          have f1 := c1.f 1
          have f2 := c1.f 2
          have f3 := c1.f 3
          have hres := dn_stored c1 (dn_bad w4) w hB4 (by omega)
          have z3 := c1.stored true false none 0 0 0
          have z0 := z3.c0
          have z1 := z3.c1
          have z2 := z3.c2
          have z4 := z3.c3
          have HRES := Lib.hid hres; clear hres z3
          go_wp2
          refine bodyPost_ret (v := .agg #[.bool true, .bool false, .slice none 0 0, .int .i64 0]) (by simp [results, Tryz.results107, go_sem, z0, z1, z2, z4]) rfl ⟨_, rfl, ?_, ?_⟩
          · rw [HSP.out]; exact HRES.out.1
          · show Below _ _ _; rw [HBe.out]; exact HRES.out.2
      · have hg1 : ¬ i > 262144 := by omega
        have hg2 : ¬ i < -262144 := by omega
        have HSP := Lib.hid (dscale_near (i := i) HND.out H0.out)
        have hj0 : -262144 ≤ i := by omega
        have hj1 : i ≤ 262144 := by omega
        clear hfar
        go_wp2_with fail
        refine (refMake_any _ _ _ _ _ _ _ gm HBL.out (by omega) (by omega) HT.out).mono ?_
        rintro e w4 ⟨r, rfl, hr4, hw4⟩
        rw [HSP.out] at hr4
        have c1 := c1.below hw4
        obtain ⟨hB4, hB4'⟩ := bnext hB3 (by omega) hw4
        obtain ⟨rb, rn, ro2, rk, rc, re, rfl⟩ := hr4.parts
        clear k0 k1 k2 k3
        have q0 := c1.c0
        have q1 := c1.c1
        have q2 := c1.c2
        have q3 := c1.c3
        have f0 := c1.f 0
        have f1 := c1.f 1
        have f2 := c1.f 2
        have f3 := c1.f 3
        have hres := dn_stored c1 hr4 w hB4 (by omega)
        have z3 := c1.stored rb rn ro2 rk rc re
        have z0 := z3.c0
        have z1 := z3.c1
        have z2 := z3.c2
        have z4 := z3.c3
        have HRES := Lib.hid hres; clear hres z3
        go_wp2
        refine bodyPost_ret (v := .agg #[.bool rb, .bool rn, .slice ro2 rk rc, .int .i64 re]) (by simp [results, Tryz.results107, go_sem, z0, z1, z2, z4]) rfl ⟨_, rfl, ?_, ?_⟩
        · exact HRES.out.1
        · show Below _ _ _; rw [HBe.out]; exact HRES.out.2

end Go.Proofs.YtecaaklbhhjcjaaGreatDoor
