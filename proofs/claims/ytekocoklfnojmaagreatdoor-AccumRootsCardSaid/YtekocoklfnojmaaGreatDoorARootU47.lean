import Derived.Test.YtekocoklfnojmaaGreatDoorARootU46
import Derived.Test.YtekocoklfnojmaaGreatDoorARootU34
import Derived.Test.YtekocoklfnojmaaGreatDoorARootU38
import Derived.Test.YtekocoklfnojmaaGreatDoorARootU45
import Derived.Test.YtekocoklfnojmaaGreatDoorARootU44
import Derived.Test.YtekocoklfnojmaaGreatDoorARootU35
namespace Go.Proofs.YtekocoklfnojmaaGreatDoor
open Go.RowKit

set_option maxRecDepth 100000 in
set_option maxHeartbeats 4000000 in
theorem frootd_none (v : Value) (mode : Int) (w : World) (hv : Dg w v none) (hT : Table w) :
    Calls Tryz.prog 124 #[v, .int .i64 mode] w fun r w' => r = .returned (.int .u64 9221120237041090560) ∧ Ext w w' := by
  obtain ⟨vb, vn, vo, vk, vc, ve, rfl⟩ := hv.parts
  have HT := Lib.hid hT
  clear hT
  go_enter Tryz.func124, Tryz.ntmps124
  go_upto_region 1 with fail
  obtain ⟨W, hW, hB, hx, hz⟩ := dbox_new w vb vn vo vk vc ve
  rw [← hW]
  clear hW
  have hd := hv.ext (show Ext w W from hB)
  have hTW := HT.out.below hB
  generalize hBe : w.heap.size = B at *
  have HBe := Lib.hid hBe
  clear hBe hv
  have c0 := hx.c0
  have c1 := hx.c1
  have c2 := hx.c2
  have c3 := hx.c3
  have HD := Lib.hid hd
  have HTW := Lib.hid hTW
  clear hd hTW
  go_wp2_with fail
  refine (dnorm_any _ _ _ HD.out HTW.out).mono ?_
  rintro r w1 ⟨v1, rfl, hd, hE⟩
  obtain ⟨nb, nn, no, nk, nc, ne, rfl⟩ := hd.parts
  obtain ⟨h1, h2, h3⟩ := hd.get
  obtain rfl : nb = true := h1
  have x1 := hx.below hE
  have b1 : Below B w w1 := hB.trans (Below.mono hE (by omega))
  clear c0 c1 c2 c3 hx hB hE
  have g0 := x1.f 0
  have g1 := x1.f 1
  have g2 := x1.f 2
  have g3 := x1.f 3
  have c0 := x1.c0
  have c1 := x1.c1
  have c2 := x1.c2
  have c3 := x1.c3
  clear hd h2 h3
  go_upto_region 2 with fail
  have ho := only_set4 w1 B (.bool true) (.bool nn) (.slice no nk nc) (.int .i64 ne)
  have x2 := x1.stored true nn no nk nc ne
  have b2 := b1.trans (ho.below (B := B) (Nat.le_refl _))
  generalize (((w1.setCell ⟨B, 0, none⟩ (.bool true)).setCell ⟨B, 1, none⟩ (.bool nn)).setCell ⟨B, 2, none⟩ (.slice no nk nc)).setCell ⟨B, 3, none⟩ (.int .i64 ne) = W2 at *
  clear c0 c1 c2 c3 g0 g1 g2 g3 x1 b1 ho
  have c0 := x2.c0
  have B2 := Lib.hid b2
  clear b2
  go_wp2
  go_ret
  refine ⟨rfl, ?_⟩
  show Below _ _ _
  rw [HBe.out]
  exact B2.out

set_option maxRecDepth 100000 in
set_option maxHeartbeats 4000000 in
theorem frootd_some (v : Value) (m e mode : Int) (w : World) (hv : Dg w v (some (m, e))) (hT : Table w) :
    Calls Tryz.prog 124 #[v, .int .i64 mode] w fun r w' => r = .returned (.int .u64 ((rootV (some (m, e)) mode : Nat) : Int)) ∧ Ext w w' := by
  obtain ⟨R, hR⟩ : ∃ R, rootV (some (m, e)) mode = R := ⟨_, rfl⟩
  rw [hR]
  have HR := Lib.hid hR
  clear hR
  obtain ⟨vb, vn, vo, vk, vc, ve, rfl⟩ := hv.parts
  have HT := Lib.hid hT
  clear hT
  go_enter Tryz.func124, Tryz.ntmps124
  go_upto_region 1 with fail
  obtain ⟨W, hW, hB, hx, hz⟩ := dbox_new w vb vn vo vk vc ve
  rw [← hW]
  clear hW
  have hd := hv.ext (show Ext w W from hB)
  have hTW := HT.out.below hB
  generalize hBe : w.heap.size = B at *
  have HBe := Lib.hid hBe
  clear hBe hv
  have c0 := hx.c0
  have c1 := hx.c1
  have c2 := hx.c2
  have c3 := hx.c3
  have HD := Lib.hid hd
  have HTW := Lib.hid hTW
  clear hd hTW
  go_wp2_with fail
  refine (dnorm_any _ _ _ HD.out HTW.out).mono ?_
  rintro r w1 ⟨v1, rfl, hd, hE⟩
  obtain ⟨nb, nn, no, nk, nc, ne, rfl⟩ := hd.parts
  obtain ⟨h1, h2, h3⟩ := hd.get
  obtain rfl : nb = false := h1
  have x1 := hx.below hE
  have b1 : Below B w w1 := hB.trans (Below.mono hE (by omega))
  clear c0 c1 c2 c3 hx hB hE
  have g0 := x1.f 0
  have g1 := x1.f 1
  have g2 := x1.f 2
  have g3 := x1.f 3
  have c0 := x1.c0
  have c1 := x1.c1
  have c2 := x1.c2
  have c3 := x1.c3
  obtain rfl : ne = e := h2
  have hbn : Bn w1 nn no nk nc m := h3
  have hnd : Nd (some (m, ne)) := hd.1
  have HNN := Lib.hid hbn.neg
  clear hd h3
  go_upto_region 2 with fail
  have hsl := hbn.sl
  have ho := only_set4 w1 B (.bool false) (.bool nn) (.slice no nk nc) (.int .i64 ne)
  have x2 := x1.stored false nn no nk nc ne
  have s2 := hsl.only_dbox x1 ho
  have n2 := hbn.only_dbox x1 ho
  have b2 := b1.trans (ho.below (B := B) (Nat.le_refl _))
  generalize (((w1.setCell ⟨B, 0, none⟩ (.bool false)).setCell ⟨B, 1, none⟩ (.bool nn)).setCell ⟨B, 2, none⟩ (.slice no nk nc)).setCell ⟨B, 3, none⟩ (.int .i64 ne) = W2 at *
  clear c0 c1 c2 c3 g0 g1 g2 g3 x1 b1 ho hsl hbn
  have hnk : nk ≤ 4096 := by
    rw [← s2.len]
    have h4 := (nd_blen hnd).1
    exact limbs_of_blen (a := m.natAbs) (k := 4096) (show blen m.natAbs ≤ 131072 from h4)
  have hne := (nd_blen hnd).2
  have hne0 : -65536 ≤ ne := hne.1
  have hne1 : ne ≤ 65536 := hne.2
  clear hne
  have CS := Lib.hid (fun wx (h : Ext W2 wx) => sign_any nn no nk nc m wx ((n2.below h).bg (by omega)))
  have hcells : ∀ wx, Ext W2 wx → (wx.cell? ⟨B, 0, none⟩ = some (.bool false) ∧ wx.cell? ⟨B, 1, none⟩ = some (.bool nn) ∧ wx.cell? ⟨B, 2, none⟩ = some (.slice no nk nc) ∧ wx.cell? ⟨B, 3, none⟩ = some (.int .i64 ne)) := fun wx h => ⟨(x2.ext h).c0, (x2.ext h).c1, (x2.ext h).c2, (x2.ext h).c3⟩
  have HC := Lib.hid hcells
  have B2 := Lib.hid (And.intro b2 x2.lt)
  have HND := Lib.hid hnd
  have S2 := Lib.hid s2
  clear hcells s2 n2 x2 b2 hnd
  cases nn with
  | true =>
    have hm : m < 0 := of_decide_eq_true HNN.out.symm
    obtain ⟨c0, c1, c2, c3⟩ := HC.out W2 (Ext.refl _)
    go_wp2
    go_ret
    refine ⟨by rw [← HR.out]; unfold rootV; dsimp only; rw [if_pos hm]; rfl, ?_⟩
    show Below _ _ _
    rw [HBe.out]
    exact B2.out.1
  | false =>
    have hm0 : ¬ m < 0 := of_decide_eq_false HNN.out.symm
    obtain ⟨c0, c1, c2, c3⟩ := HC.out W2 (Ext.refl _)
    by_cases hm : m = 0
    · have v1 : sgn3 m 0 = 0 := by rw [hm]; decide
      go_wp2_with fail
      refine (CS.out _ (Ext.refl _)).mono ?_
      rintro r w3 ⟨rfl, hE⟩
      have E3 : Ext W2 w3 := hE
      clear c0 c1 c2 c3 hE
      go_wp2
      go_ret
      refine ⟨by rw [← HR.out]; unfold rootV; dsimp only; rw [if_neg (by omega), if_pos hm]; rfl, ?_⟩
      show Below _ _ _
      rw [HBe.out]
      exact B2.out.1.trans (Below.mono E3 (by have := B2.out.2; omega))
    · have hodd : m.natAbs % 2 = 1 := by
        rcases HND.out with ⟨h, _⟩ | ⟨h, _⟩
        · exact absurd h hm
        · exact h
      have v1 : (sgn3 m 0 == 0) = false := by rw [beq_eq_false_iff_ne]; unfold sgn3; split <;> (try split) <;> omega
      have CL := Lib.hid (fun wx (h : Ext W2 wx) => flead_top no nk nc m.natAbs ne wx (S2.out.below h) ⟨by omega, Or.inl hodd⟩ (by omega) (by omega) (by omega))
      have hmA : m = ((m.natAbs : Nat) : Int) := by omega
      have hA0 : m.natAbs ≠ 0 := by omega
      obtain ⟨A, hA⟩ : ∃ A, m.natAbs = A := ⟨_, rfl⟩
      rw [hA] at hmA hA0 CL
      have hR := HR.out
      have CO := Lib.hid (fun (r : Nat) (E : Int) (T : Bool) (h : RootG A ne r E T) (e0 : -200000000 ≤ E) (e1 : E ≤ 200000000) (wx : World) =>
        fround_at 0 r E T false mode (by omega) (by have := h.r3; omega) (by have := h.r2; omega) (fun _ => Nat.le_trans (by decide) (Nat.le_trans h.r2 (Nat.le_add_left _ _))) (by omega) (by omega) (z := 0) rfl R (by rw [Nat.zero_mul, Nat.zero_add, Nat.zero_add, h.fla hA0, ← hmA, hR]) wx)
      clear hodd hmA hA0 hR hA
      go_wp2_with fail
      refine (CS.out _ (Ext.refl _)).mono ?_
      rintro r w3 ⟨rfl, hE⟩
      have E3 : Ext W2 w3 := hE
      clear c0 c1 c2 c3 hE
      obtain ⟨c0, c1, c2, c3⟩ := HC.out w3 E3
      go_wp2_with fail
      refine (CL.out _ E3).mono ?_
      rintro e wn ⟨H, L, E, T, j, rfl, hH, hL, hV, h0, hE, hTT, h53, -, hj, hE1⟩
      have CG := Lib.hid (fun wx => froot_any (A := A) (j := j) (hi := H) (lo := L) (e := E) (ea := ne) (t := T) hH hL hV hTT h0 h53 hE (by omega) (by omega) wx)
      clear hV h0 hE hTT h53 hj
      have E4 : Ext W2 wn := Ext.trans E3 hE1
      clear c0 c1 c2 c3 hE1 E3
      go_wp2_with fail
      refine (CG.out _).mono ?_
      rintro e wm ⟨r, E', T', rfl, hG, e0, e1, hE1⟩
      have CO1 := Lib.hid (CO.out r E' T' hG e0 e1)
      have E5 : Ext W2 wm := Ext.trans E4 hE1
      clear hG e0 e1 hE1 E4
      go_wp2_with fail
      refine (CO1.out _).mono ?_
      rintro e wl ⟨rfl, hE1⟩
      have E6 := Lib.hid (Ext.trans E5 hE1)
      clear hE1 E5
      go_wp2
      go_ret
      refine ⟨rfl, ?_⟩
      show Below _ _ _
      rw [HBe.out]
      exact B2.out.1.trans (Below.mono E6.out (by have := B2.out.2; omega))

theorem frootd_any (v : Value) (d : Dy) (mode : Int) (w : World) (hv : Dg w v d) (hT : Table w) :
    Calls Tryz.prog 124 #[v, .int .i64 mode] w fun r w' => r = .returned (.int .u64 ((rootV d mode : Nat) : Int)) ∧ Ext w w' := by
  cases d with
  | none => exact frootd_none v mode w hv hT
  | some p => exact frootd_some v p.1 p.2 mode w hv hT
end Go.Proofs.YtekocoklfnojmaaGreatDoor

namespace Go.Proofs.YtekocoklfnojmaaGreatDoor
open Go Go.RowKit

set_option maxRecDepth 100000 in
set_option maxHeartbeats 4000000 in
theorem anormTwo_any (ao : Option Addr) (n cap : Nat) (l : List Nat) (mode : Int) (w : World) (h : Fs w ao n cap l) (hT : Table w) (hT6 : Table64 w) (hn : n ≤ 1000000) :
    Calls Tryz.prog 59 #[.slice ao n cap, .int .i64 mode] w fun e w' => e = .returned (.int .u64 ((norm2 l mode : Nat) : Int)) ∧ Ext w w' := by
  obtain ⟨R, hR⟩ : ∃ R, norm2 l mode = R := ⟨_, rfl⟩
  rw [hR]
  obtain ⟨D, E, hD⟩ : ∃ D E, dotR l l = (D, E) := ⟨_, _, rfl⟩
  have hE4 := dot_err l
  unfold norm2 at hR
  rw [hD] at hR hE4
  simp only [] at hR hE4
  have CD := Lib.hid (adotR_any ao ao n n cap cap l l w h h hT hT6 hn D E hD)
  have HT := Lib.hid hT
  clear hD hT hT6
  go_enter Tryz.func59, Tryz.ntmps59
  go_wp2_with fail
  refine CD.out.mono ?_
  rintro e w1 ⟨v, rfl, hv, hw1⟩
  obtain ⟨rb, rn, ro, rk, rc, re, rfl⟩ := hv.parts
  go_upto_region 2 with fail
  obtain ⟨W, hW, hB, hbx, hz⟩ := dbox_new w1 rb rn ro rk rc re
  rw [← hW]
  clear hW
  have hv := hv.ext hB
  have hE1 : Ext w W := Ext.trans hw1 hB
  generalize w1.heap.size = B at *
  have k0 := hbx.c0
  have k1 := hbx.c1
  have k2 := hbx.c2
  have k3 := hbx.c3
  rcases hE4 with rfl | rfl
  · rw [if_pos rfl] at hR
    have CR := frootd_any _ D mode W hv.dg (HT.out.below hE1)
    rw [hR] at CR
    have CR := Lib.hid CR
    have HE1 := Lib.hid hE1
    clear hR hv hB hw1 hE1
    go_wp2_with fail
    refine CR.out.mono ?_
    rintro e w2 ⟨rfl, hw2⟩
    have HF := Lib.hid (Ext.trans HE1.out hw2)
    go_wp2
    go_ret
    exact ⟨rfl, HF.out⟩
  · rw [if_neg (by omega)] at hR
    subst hR
    have HE1 := Lib.hid hE1
    clear hv hB hw1 hE1
    go_wp2
    go_ret
    exact ⟨rfl, HE1.out⟩
end Go.Proofs.YtekocoklfnojmaaGreatDoor

namespace Go.Proofs.YtekocoklfnojmaaGreatDoor
open Go Go.RowKit

set_option maxRecDepth 100000 in
set_option maxHeartbeats 16000000 in
theorem arootL_yes (ao : Option Addr) (n cap : Nat) (l : List Nat) (w : World) (hx : Fs w ao n cap l) (hT : Table w) (hT6 : Table64 w) (hn : n ≤ 10) (hf : l.all finB = true) :
    Calls Tryz.prog 7 #[.slice ao n cap] w fun e w' => e = .returned (.bool true) ∧ Ext w w' := by
  obtain ⟨D, N, hD, hI, hN⟩ := norm2_fin (by have := hx.len; omega) hf
  obtain ⟨u1, u2, u3, u4, u5, u6, u7⟩ := roots_cmp hI
  have n1 := hN 1
  have n2 := hN 2
  have HX := Lib.hid (fun W (hE : Ext w W) => hx.below hE)
  have HTT := Lib.hid (fun W (hE : Ext w W) => hT.below hE)
  have HT6 := Lib.hid (fun W (hE : Ext w W) => hT6.below hE)
  have AW := Lib.hid (fun W (hE : Ext w W) => aawake_any W (HTT.out W hE) (HT6.out W hE))
  have FX := Lib.hid (refFinite_any _ _ _ _ w hx (by omega) true hf)
  have C1 := Lib.hid (fun W (hE : Ext w W) => anormTwo_any ao n cap l 1 W (HX.out W hE) (HTT.out W hE) (HT6.out W hE) (by omega))
  have C2 := Lib.hid (fun W (hE : Ext w W) => anormTwo_any ao n cap l 2 W (HX.out W hE) (HTT.out W hE) (HT6.out W hE) (by omega))
  have CD := Lib.hid (fun W (hE : Ext w W) => adotR_any ao ao n n cap cap l l W (HX.out W hE) (HX.out W hE) (HTT.out W hE) (HT6.out W hE) (by omega) D 0 hD)
  rw [n1] at C1
  rw [n2] at C2
  generalize rootV D 1 = lo at *
  generalize rootV D 2 = hi at *
  obtain ⟨X, hX⟩ : ∃ X, fdy lo = X := ⟨_, rfl⟩
  obtain ⟨Y, hY⟩ : ∃ Y, fdy hi = Y := ⟨_, rfl⟩
  have sX := fdy_blen u3
  have sY : hi ≠ 9218868437227405312 → blen (dm (fdy hi)).natAbs ≤ 53 := fun h => fdy_blen (u7 h).1
  rw [hX] at u4 u6 sX
  rw [hY] at u7 sY
  have SX := Lib.hid (show blen (dm X).natAbs ≤ 3100 by omega)
  have SY := Lib.hid (show hi ≠ 9218868437227405312 → blen (dm Y).natAbs ≤ 3100 from fun h => by have := sY h; omega)
  have CO1 := Lib.hid (fun W hT => fof_at (d := X) u1 hX W hT)
  have CO2 := Lib.hid (fun W hT => fof_at (d := Y) u2 hY W hT)
  obtain ⟨c1, hc1⟩ : ∃ c, sgn3 (sc (dmul X X)) (sc D) = c := ⟨_, rfl⟩
  obtain ⟨c2, hc2⟩ : ∃ c, sgn3 (sc D) (sc (dmul Y Y)) = c := ⟨_, rfl⟩
  have D1 := Lib.hid (show DcmpIs (dmul X X) D c1 true from Or.inr ⟨u4, u5, hc1.symm, rfl⟩)
  have D2 := Lib.hid (show hi ≠ 9218868437227405312 → DcmpIs D (dmul Y Y) c2 true from fun h => Or.inr ⟨u5, (u7 h).2.1, hc2.symm, rfl⟩)
  rw [hc1] at u6
  have L2 := Lib.hid (show hi ≠ 9218868437227405312 → c2 ≤ 0 from fun h => by rw [← hc2]; exact (u7 h).2.2)
  have hnl : ¬ (n : Int) > 10 := by omega
  have hz : ((0 : Int) != 0) = false := by decide
  clear hD hI hN u1 u2 u3 u4 u5 u7 n1 n2 hX hY sX sY hc1 hc2 hT hT6 hx hf hn
  go_enter Tryz.func7, Tryz.ntmps7
  go_wp2_with fail
  refine FX.out.mono ?_
  rintro e w1 ⟨rfl, rfl⟩
  have h0 : Ext w w := Ext.refl w
  go_wp2_with fail
  refine (C1.out _ h0).mono ?_
  rintro e w2 ⟨rfl, hE⟩
  have h1 := Ext.trans h0 hE
  clear hE
  go_wp2_with fail
  refine (C2.out _ h1).mono ?_
  rintro e w3 ⟨rfl, hE⟩
  have h2 := Ext.trans h1 hE
  clear hE
  go_wp2_with fail
  refine (CD.out _ h2).mono ?_
  rintro e w4 ⟨v, rfl, hv, hE⟩
  have h3 := Ext.trans h2 hE
  clear hE h0 h1 h2
  obtain ⟨xb, xn, xo, xk, xc, xe, rfl⟩ := hv.parts
  go_upto_region 5 with fail
  obtain ⟨V, hV, hB, bx, hsz⟩ := dbox_new w4 xb xn xo xk xc xe
  rw [← hV]
  clear hV hsz
  have hB : Ext w4 V := hB
  have HD := Lib.hid (fun wx (h : Ext V wx) => (hv.ext (Ext.trans hB h)).dg)
  have HVW := Lib.hid (Ext.trans h3 hB)
  have HTV := Lib.hid (fun wx (h : Ext V wx) => HTT.out wx (Ext.trans HVW.out h))
  have HT6V := Lib.hid (fun wx (h : Ext V wx) => HT6.out wx (Ext.trans HVW.out h))
  generalize w4.heap.size = B at *
  have HC := Lib.hid (show ∀ wx, Ext V wx → wx.cell? ⟨B, 0, none⟩ = some (.bool xb) ∧ wx.cell? ⟨B, 1, none⟩ = some (.bool xn) ∧ wx.cell? ⟨B, 2, none⟩ = some (.slice xo xk xc) ∧ wx.cell? ⟨B, 3, none⟩ = some (.int .i64 xe) from fun wx h => ⟨(bx.ext h).c0, (bx.ext h).c1, (bx.ext h).c2, (bx.ext h).c3⟩)
  clear bx hB h3 hv
  have st : Ext V V := Ext.refl _
  obtain ⟨x0, x1, x2, x3⟩ := HC.out _ st
  go_upto_region 5 with fail
  have st : Ext V _ := st.drew
  have TAG1 := Lib.hid trivial
  go_cut [7, 8] from 31 (fun p q wx => p = .int .i64 c1 ∧ q = .bool true ∧ Ext V wx)
  case first =>
    go_region_held3 (fun wx => wx.cell? ⟨B, 0, none⟩ = some (.bool xb) ∧ wx.cell? ⟨B, 1, none⟩ = some (.bool xn) ∧ wx.cell? ⟨B, 2, none⟩ = some (.slice xo xk xc) ∧ wx.cell? ⟨B, 3, none⟩ = some (.int .i64 xe))
      (first | exact HC.out _ (by assumption))
      (first
        | (go_at_call 47; clear TAG1; (with_reducible refine (CO1.out _ (HT6V.out _ (by assumption))).mono ?_); rintro r wn ⟨v1, rfl, h1, hE⟩; have st : Ext V wn := Ext.trans (by assumption) hE; clear hE)
        | (go_at_call 47; (with_reducible refine (CO1.out _ (HT6V.out _ (by assumption))).mono ?_); rintro r wn ⟨v2, rfl, h2, hE⟩; have h1 := h1.ext hE; have st : Ext V wn := Ext.trans (by assumption) hE; clear hE)
        | (go_at_call 55; (refine (dcmp_at (by exact h3.dg) (HD.out _ (by assumption)) (HTV.out _ (by assumption)) D1.out).mono ?_); rintro r wk ⟨rfl, hE⟩; have stk : Ext V wk := Ext.trans (by assumption) hE; clear hE)
        | (go_at_call 50; (refine (dmul_any _ _ _ _ _ (by exact h1.dg) (by exact h2.dg) (HTV.out _ (by assumption)) (Or.inl SX.out)).mono ?_); rintro r wn ⟨v3, rfl, h3, hE⟩; have st : Ext V wn := Ext.trans (by assumption) hE; clear hE))
    all_goals
      have EF : Ext V wk := by assumption
      go_wp2
      go_meet
    all_goals
      exact ⟨rfl, rfl, EF⟩
  case rest =>
    obtain ⟨rfl, rfl, hE⟩ := hcut
    clear st
    have st : Ext V wc := hE
    clear hE x0 x1 x2 x3 TAG1
    by_cases hh : hi = 9218868437227405312
    · have hh2 : ((hi : Int) == 9218868437227405312) = true := by rw [hh]; rfl
      go_wp2_with fail
      refine (AW.out _ (Ext.trans HVW.out st)).mono ?_
      rintro e w9 ⟨rfl, hE⟩
      have HF := Lib.hid (Ext.trans (Ext.trans HVW.out st) hE)
      go_wp2
      go_ret
      exact ⟨rfl, HF.out⟩
    · have hh2 : ((hi : Int) == 9218868437227405312) = false := by rw [beq_eq_false_iff_ne]; omega
      have SZ := Lib.hid (SY.out hh)
      have DZ := Lib.hid (D2.out hh)
      have l2 := L2.out hh
      clear SY D2 L2 hh
      obtain ⟨x0, x1, x2, x3⟩ := HC.out _ st
      go_upto_region 10 with fail
      have st : Ext V _ := st.drew
      have TAG1 := Lib.hid trivial
      go_cut [9, 10] from 54 (fun p q wx => p = .int .i64 c2 ∧ q = .bool true ∧ Ext V wx)
      case first =>
        go_region_held3 (fun wx => wx.cell? ⟨B, 0, none⟩ = some (.bool xb) ∧ wx.cell? ⟨B, 1, none⟩ = some (.bool xn) ∧ wx.cell? ⟨B, 2, none⟩ = some (.slice xo xk xc) ∧ wx.cell? ⟨B, 3, none⟩ = some (.int .i64 xe))
          (first | exact HC.out _ (by assumption))
          (first
            | (go_at_call 47; clear TAG1; (with_reducible refine (CO2.out _ (HT6V.out _ (by assumption))).mono ?_); rintro r wn ⟨v1, rfl, h1, hE⟩; have st : Ext V wn := Ext.trans (by assumption) hE; clear hE)
            | (go_at_call 47; (with_reducible refine (CO2.out _ (HT6V.out _ (by assumption))).mono ?_); rintro r wn ⟨v2, rfl, h2, hE⟩; have h1 := h1.ext hE; have st : Ext V wn := Ext.trans (by assumption) hE; clear hE)
            | (go_at_call 55; (refine (dcmp_at (HD.out _ (by assumption)) (by exact h3.dg) (HTV.out _ (by assumption)) DZ.out).mono ?_); rintro r wk ⟨rfl, hE⟩; have stk : Ext V wk := Ext.trans (by assumption) hE; clear hE)
            | (go_at_call 50; (refine (dmul_any _ _ _ _ _ (by exact h1.dg) (by exact h2.dg) (HTV.out _ (by assumption)) (Or.inl SZ.out)).mono ?_); rintro r wn ⟨v3, rfl, h3, hE⟩; have st : Ext V wn := Ext.trans (by assumption) hE; clear hE))
        all_goals
          have EF : Ext V wk := by assumption
          go_wp2
          go_meet
        all_goals
          exact ⟨rfl, rfl, EF⟩
      case rest =>
        obtain ⟨rfl, rfl, hE⟩ := hcut
        clear st
        have st : Ext V wc := hE
        clear hE x0 x1 x2 x3 TAG1
        go_wp2_with fail
        refine (AW.out _ (Ext.trans HVW.out st)).mono ?_
        rintro e w9 ⟨rfl, hE⟩
        have HF := Lib.hid (Ext.trans (Ext.trans HVW.out st) hE)
        go_wp2
        go_ret
        exact ⟨rfl, HF.out⟩

set_option maxRecDepth 100000 in
set_option maxHeartbeats 4000000 in
theorem arootL_any (ao : Option Addr) (n cap : Nat) (w : World) (hr0 : n ≤ 1000000 → ∃ l, Fs w ao n cap l) (hT : Table w) (hT6 : Table64 w) :
    Calls Tryz.prog 7 #[.slice ao n cap] w fun e w' => e = .returned (.bool true) ∧ Ext w w' := by
  by_cases hn : n ≤ 10
  · obtain ⟨x, hx⟩ := hr0 (by omega)
    cases hf : x.all finB with
    | true => exact arootL_yes ao n cap x w hx hT hT6 hn hf
    | false =>
      have FX := Lib.hid (refFinite_any _ _ _ _ w hx (by omega) false hf)
      have AW := Lib.hid (aawake_any w hT hT6)
      have hnl : ¬ (n : Int) > 10 := by omega
      clear hr0 hT hT6 hx hf hn
      go_enter Tryz.func7, Tryz.ntmps7
      go_wp2_with fail
      refine FX.out.mono ?_
      rintro e w1 ⟨rfl, rfl⟩
      go_wp2_with fail
      refine AW.out.mono ?_
      rintro e w9 ⟨rfl, h9⟩
      have HF := Lib.hid h9
      go_wp2
      go_ret
      exact ⟨rfl, HF.out⟩
  · have AW := Lib.hid (aawake_any w hT hT6)
    clear hr0 hT hT6
    have h1 : (n : Int) > 10 := by omega
    go_enter Tryz.func7, Tryz.ntmps7
    go_wp2_with fail
    refine AW.out.mono ?_
    rintro e w9 ⟨rfl, h9⟩
    have HF := Lib.hid h9
    go_wp2
    go_ret
    exact ⟨rfl, HF.out⟩
end Go.Proofs.YtekocoklfnojmaaGreatDoor
