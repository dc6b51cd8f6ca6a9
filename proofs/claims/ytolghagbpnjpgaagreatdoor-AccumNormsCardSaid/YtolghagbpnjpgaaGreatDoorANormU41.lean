import Derived.Test.YtolghagbpnjpgaaGreatDoorANormU40
import Derived.Test.YtolghagbpnjpgaaGreatDoorANormU26
import Derived.Test.YtolghagbpnjpgaaGreatDoorANormU29
import Derived.Test.YtolghagbpnjpgaaGreatDoorANormU39
import Derived.Test.YtolghagbpnjpgaaGreatDoorANormU38
import Derived.Test.YtolghagbpnjpgaaGreatDoorANormU36
import Derived.Test.YtolghagbpnjpgaaGreatDoorANormU32
import Derived.Test.YtolghagbpnjpgaaGreatDoorANormU4
namespace Go.Proofs.YtolghagbpnjpgaaGreatDoor
open Go.RowKit

set_option maxRecDepth 100000 in
set_option maxHeartbeats 4000000 in
theorem frootd_none (v : Value) (mode : Int) (w : World) (hv : Dg w v none) (hT : Table w) :
    Calls Tryz.prog 25 #[v, .int .i64 mode] w fun r w' => r = .returned (.int .u64 9221120237041090560) ∧ Ext w w' := by
  obtain ⟨vb, vn, vo, vk, vc, ve, rfl⟩ := hv.parts
  have HT := Lib.hid hT
  clear hT
  go_enter Tryz.func25, Tryz.ntmps25
  go_upto_region 1 with fail
  obtain ⟨W, hW, hB, hx, hz⟩ := dbox_new w vb vn vo vk vc ve
  rw [← hW]
  clear hW
  have hd := hv.ext (show Ext w W from hB)
  have hTW := HT.out.below hB
  generalize hBe : w.heap.size = B at *
  have HBe := Lib.hid hBe
  clear hBe hv
  have c0 := hx.c0
  have c1 := hx.c1
  have c2 := hx.c2
  have c3 := hx.c3
  have HD := Lib.hid hd
  have HTW := Lib.hid hTW
  clear hd hTW
  go_wp2_with fail
  refine (dnorm_any _ _ _ HD.out HTW.out).mono ?_
  rintro r w1 ⟨v1, rfl, hd, hE⟩
  obtain ⟨nb, nn, no, nk, nc, ne, rfl⟩ := hd.parts
  obtain ⟨h1, h2, h3⟩ := hd.get
  obtain rfl : nb = true := h1
  have x1 := hx.below hE
  have b1 : Below B w w1 := hB.trans (Below.mono hE (by omega))
  clear c0 c1 c2 c3 hx hB hE
  have g0 := x1.f 0
  have g1 := x1.f 1
  have g2 := x1.f 2
  have g3 := x1.f 3
  have c0 := x1.c0
  have c1 := x1.c1
  have c2 := x1.c2
  have c3 := x1.c3
  clear hd h2 h3
  go_upto_region 2 with fail
  have ho := only_set4 w1 B (.bool true) (.bool nn) (.slice no nk nc) (.int .i64 ne)
  have x2 := x1.stored true nn no nk nc ne
  have b2 := b1.trans (ho.below (B := B) (Nat.le_refl _))
  generalize (((w1.setCell ⟨B, 0, none⟩ (.bool true)).setCell ⟨B, 1, none⟩ (.bool nn)).setCell ⟨B, 2, none⟩ (.slice no nk nc)).setCell ⟨B, 3, none⟩ (.int .i64 ne) = W2 at *
  clear c0 c1 c2 c3 g0 g1 g2 g3 x1 b1 ho
  have c0 := x2.c0
  have B2 := Lib.hid b2
  clear b2
  go_wp2
  go_ret
  refine ⟨rfl, ?_⟩
  show Below _ _ _
  rw [HBe.out]
  exact B2.out

set_option maxRecDepth 100000 in
set_option maxHeartbeats 4000000 in
theorem frootd_some (v : Value) (m e mode : Int) (w : World) (hv : Dg w v (some (m, e))) (hT : Table w) :
    Calls Tryz.prog 25 #[v, .int .i64 mode] w fun r w' => r = .returned (.int .u64 ((rootV (some (m, e)) mode : Nat) : Int)) ∧ Ext w w' := by
  obtain ⟨R, hR⟩ : ∃ R, rootV (some (m, e)) mode = R := ⟨_, rfl⟩
  rw [hR]
  have HR := Lib.hid hR
  clear hR
  obtain ⟨vb, vn, vo, vk, vc, ve, rfl⟩ := hv.parts
  have HT := Lib.hid hT
  clear hT
  go_enter Tryz.func25, Tryz.ntmps25
  go_upto_region 1 with fail
  obtain ⟨W, hW, hB, hx, hz⟩ := dbox_new w vb vn vo vk vc ve
  rw [← hW]
  clear hW
  have hd := hv.ext (show Ext w W from hB)
  have hTW := HT.out.below hB
  generalize hBe : w.heap.size = B at *
  have HBe := Lib.hid hBe
  clear hBe hv
  have c0 := hx.c0
  have c1 := hx.c1
  have c2 := hx.c2
  have c3 := hx.c3
  have HD := Lib.hid hd
  have HTW := Lib.hid hTW
  clear hd hTW
  go_wp2_with fail
  refine (dnorm_any _ _ _ HD.out HTW.out).mono ?_
  rintro r w1 ⟨v1, rfl, hd, hE⟩
  obtain ⟨nb, nn, no, nk, nc, ne, rfl⟩ := hd.parts
  obtain ⟨h1, h2, h3⟩ := hd.get
  obtain rfl : nb = false := h1
  have x1 := hx.below hE
  have b1 : Below B w w1 := hB.trans (Below.mono hE (by omega))
  clear c0 c1 c2 c3 hx hB hE
  have g0 := x1.f 0
  have g1 := x1.f 1
  have g2 := x1.f 2
  have g3 := x1.f 3
  have c0 := x1.c0
  have c1 := x1.c1
  have c2 := x1.c2
  have c3 := x1.c3
  obtain rfl : ne = e := h2
  have hbn : Bn w1 nn no nk nc m := h3
  have hnd : Nd (some (m, ne)) := hd.1
  have HNN := Lib.hid hbn.neg
  clear hd h3
  go_upto_region 2 with fail
  have hsl := hbn.sl
  have ho := only_set4 w1 B (.bool false) (.bool nn) (.slice no nk nc) (.int .i64 ne)
  have x2 := x1.stored false nn no nk nc ne
  have s2 := hsl.only_dbox x1 ho
  have n2 := hbn.only_dbox x1 ho
  have b2 := b1.trans (ho.below (B := B) (Nat.le_refl _))
  generalize (((w1.setCell ⟨B, 0, none⟩ (.bool false)).setCell ⟨B, 1, none⟩ (.bool nn)).setCell ⟨B, 2, none⟩ (.slice no nk nc)).setCell ⟨B, 3, none⟩ (.int .i64 ne) = W2 at *
  clear c0 c1 c2 c3 g0 g1 g2 g3 x1 b1 ho hsl hbn
  have hnk : nk ≤ 4096 := by
    rw [← s2.len]
    have h4 := (nd_blen hnd).1
    exact limbs_of_blen (a := m.natAbs) (k := 4096) (show blen m.natAbs ≤ 131072 from h4)
  have hne := (nd_blen hnd).2
  have hne0 : -65536 ≤ ne := hne.1
  have hne1 : ne ≤ 65536 := hne.2
  clear hne
  have CS := Lib.hid (fun wx (h : Ext W2 wx) => sign_any nn no nk nc m wx ((n2.below h).bg (by omega)))
  have hcells : ∀ wx, Ext W2 wx → (wx.cell? ⟨B, 0, none⟩ = some (.bool false) ∧ wx.cell? ⟨B, 1, none⟩ = some (.bool nn) ∧ wx.cell? ⟨B, 2, none⟩ = some (.slice no nk nc) ∧ wx.cell? ⟨B, 3, none⟩ = some (.int .i64 ne)) := fun wx h => ⟨(x2.ext h).c0, (x2.ext h).c1, (x2.ext h).c2, (x2.ext h).c3⟩
  have HC := Lib.hid hcells
  have B2 := Lib.hid (And.intro b2 x2.lt)
  have HND := Lib.hid hnd
  have S2 := Lib.hid s2
  clear hcells s2 n2 x2 b2 hnd
  cases nn with
  | true =>
    have hm : m < 0 := of_decide_eq_true HNN.out.symm
    obtain ⟨c0, c1, c2, c3⟩ := HC.out W2 (Ext.refl _)
    go_wp2
    go_ret
    refine ⟨by rw [← HR.out]; unfold rootV; dsimp only; rw [if_pos hm]; rfl, ?_⟩
    show Below _ _ _
    rw [HBe.out]
    exact B2.out.1
  | false =>
    have hm0 : ¬ m < 0 := of_decide_eq_false HNN.out.symm
    obtain ⟨c0, c1, c2, c3⟩ := HC.out W2 (Ext.refl _)
    by_cases hm : m = 0
    · have v1 : sgn3 m 0 = 0 := by rw [hm]; decide
      go_wp2_with fail
      refine (CS.out _ (Ext.refl _)).mono ?_
      rintro r w3 ⟨rfl, hE⟩
      have E3 : Ext W2 w3 := hE
      clear c0 c1 c2 c3 hE
      go_wp2
      go_ret
      refine ⟨by rw [← HR.out]; unfold rootV; dsimp only; rw [if_neg (by omega), if_pos hm]; rfl, ?_⟩
      show Below _ _ _
      rw [HBe.out]
      exact B2.out.1.trans (Below.mono E3 (by have := B2.out.2; omega))
    · have hodd : m.natAbs % 2 = 1 := by
        rcases HND.out with ⟨h, _⟩ | ⟨h, _⟩
        · exact absurd h hm
        · exact h
      have v1 : (sgn3 m 0 == 0) = false := by rw [beq_eq_false_iff_ne]; unfold sgn3; split <;> (try split) <;> omega
      have CL := Lib.hid (fun wx (h : Ext W2 wx) => flead_top no nk nc m.natAbs ne wx (S2.out.below h) ⟨by omega, Or.inl hodd⟩ (by omega) (by omega) (by omega))
      have hmA : m = ((m.natAbs : Nat) : Int) := by omega
      have hA0 : m.natAbs ≠ 0 := by omega
      obtain ⟨A, hA⟩ : ∃ A, m.natAbs = A := ⟨_, rfl⟩
      rw [hA] at hmA hA0 CL
      have hR := HR.out
      have CO := Lib.hid (fun (r : Nat) (E : Int) (T : Bool) (h : RootG A ne r E T) (e0 : -200000000 ≤ E) (e1 : E ≤ 200000000) (wx : World) =>
        fround_at 0 r E T false mode (by omega) (by have := h.r3; omega) (by have := h.r2; omega) (fun _ => Nat.le_trans (by decide) (Nat.le_trans h.r2 (Nat.le_add_left _ _))) (by omega) (by omega) (z := 0) rfl R (by rw [Nat.zero_mul, Nat.zero_add, Nat.zero_add, h.fla hA0, ← hmA, hR]) wx)
      clear hodd hmA hA0 hR hA
      go_wp2_with fail
      refine (CS.out _ (Ext.refl _)).mono ?_
      rintro r w3 ⟨rfl, hE⟩
      have E3 : Ext W2 w3 := hE
      clear c0 c1 c2 c3 hE
      obtain ⟨c0, c1, c2, c3⟩ := HC.out w3 E3
      go_wp2_with fail
      refine (CL.out _ E3).mono ?_
      rintro e wn ⟨H, L, E, T, j, rfl, hH, hL, hV, h0, hE, hTT, h53, -, hj, hE1⟩
      have CG := Lib.hid (fun wx => froot_any (A := A) (j := j) (hi := H) (lo := L) (e := E) (ea := ne) (t := T) hH hL hV hTT h0 h53 hE (by omega) (by omega) wx)
      clear hV h0 hE hTT h53 hj
      have E4 : Ext W2 wn := Ext.trans E3 hE1
      clear c0 c1 c2 c3 hE1 E3
      go_wp2_with fail
      refine (CG.out _).mono ?_
      rintro e wm ⟨r, E', T', rfl, hG, e0, e1, hE1⟩
      have CO1 := Lib.hid (CO.out r E' T' hG e0 e1)
      have E5 : Ext W2 wm := Ext.trans E4 hE1
      clear hG e0 e1 hE1 E4
      go_wp2_with fail
      refine (CO1.out _).mono ?_
      rintro e wl ⟨rfl, hE1⟩
      have E6 := Lib.hid (Ext.trans E5 hE1)
      clear hE1 E5
      go_wp2
      go_ret
      refine ⟨rfl, ?_⟩
      show Below _ _ _
      rw [HBe.out]
      exact B2.out.1.trans (Below.mono E6.out (by have := B2.out.2; omega))

theorem frootd_any (v : Value) (d : Dy) (mode : Int) (w : World) (hv : Dg w v d) (hT : Table w) :
    Calls Tryz.prog 25 #[v, .int .i64 mode] w fun r w' => r = .returned (.int .u64 ((rootV d mode : Nat) : Int)) ∧ Ext w w' := by
  cases d with
  | none => exact frootd_none v mode w hv hT
  | some p => exact frootd_some v p.1 p.2 mode w hv hT
end Go.Proofs.YtolghagbpnjpgaaGreatDoor

namespace Go.Proofs.YtolghagbpnjpgaaGreatDoor
open Go Go.RowKit

theorem wpList_make_float (w : World) {ops : Array Oper} {rest : List Oper} {o : Oper} {a : Act} {Q : Exit → Act → World → Prop}
    (hg : o.guard = none) (l c : Operand) (hop : o.op = Op.makeSlice 45 l c) (L : Int) (n : Nat)
    (hl : a.eval l = .int .i64 L) (hc : a.eval c = .int .i64 L) (hL : L = (n : Int)) (hn : n ≤ 1000000)
    (hK : ∀ w', FR w' w.heap.size n n (List.replicate n 0) → Below w.heap.size w w' → wpList Tryz.prog ops Q rest (a.put o.dst (.slice (some ⟨w.heap.size, 0, none⟩) n n)) w') :
    wpList Tryz.prog ops Q (o :: rest) a w := by
  obtain ⟨i0, hi, hz0, hz1, hz2⟩ := info_parts Tryz.infoFloat
  refine wpList_make_full w hg l c 45 hop 0 23 i0 (.int .u64 0) 1 Tryz.underlying45 hi hz0 hz1 _ _ _ _ n hl hc hL hL (by rw [hz2]; omega) (by unfold maxLen; omega) (Nat.zero_le _) ?_
  intro w' ho hgr
  refine hK w' ?_ ((Below.refl _ w).grown hgr (Nat.le_refl _) (fun k hk => by cases hk))
  rw [made1] at ho
  exact ho

set_option maxRecDepth 100000 in
set_option maxHeartbeats 8000000 in
theorem anormInf_any (ao : Option Addr) (n cap : Nat) (l : List Nat) (w : World) (h : Fs w ao n cap l) (hT6 : Table64 w) (hn : n ≤ 1000000) :
    Calls Tryz.prog 50 #[.slice ao n cap] w fun e w' => ∃ v, e = .returned v ∧ Dn w' v (fdy (gmax l)) ∧ Ext w w' := by
  have HL := Lib.hid h.len
  have HH := Lib.hid h
  have HT6 := Lib.hid hT6
  clear h hT6
  go_enter Tryz.func50, Tryz.ntmps50
  go_upto_region 1 with fail
  obtain ⟨W, hW, hB, hbx, hz⟩ := dbox_new w false false none 0 0 0
  rw [← hW]
  clear hW
  generalize hBe : w.heap.size = B at *
  have HBe := Lib.hid hBe
  have HEX := Lib.hid (show ∀ wx, Below B w wx → Ext w wx from fun wx h => by rw [← hBe] at h; exact h)
  clear hBe
  go_wp2
  go_loopw [3, 8] (fun gv ix wr => ∃ (j : Nat), j ≤ n ∧ ix = .int .i64 j ∧ gv = .int .u64 ((gmax (l.take j) : Nat) : Int) ∧ W = wr)
    (fun _ ix _ => n - (intOf ix).toNat)
  case atStart => exact ⟨0, Nat.zero_le _, rfl, rfl, rfl⟩
  case round =>
    obtain ⟨j, hj, rfl, rfl, rfl⟩ := hrel
    by_cases hlt : j < n
    · have h := HH.out.below (HEX.out _ hB)
      obtain ⟨b, off, rfl, hc⟩ := h.cells (by omega)
      have hcj := hc j hlt
      have hfl := h.getD_lt j
      have hgs := gmax_snoc (l := l) (j := j) (by rw [HL.out]; exact hlt)
      obtain ⟨x, hx⟩ : ∃ x, l.getD j 0 = x := ⟨_, rfl⟩
      rw [hx] at hcj hfl hgs
      have CA := Lib.hid (absF_any x hfl)
      obtain ⟨G, hG⟩ : ∃ G, gmax (l.take j) = G := ⟨_, rfl⟩
      obtain ⟨a, ha⟩ : ∃ a, fabsF x = a := ⟨_, rfl⟩
      rw [hG, ha] at hgs
      rw [ha] at CA
      have HGS := Lib.hid (show max (G : Int) (a : Int) = ((gmax (l.take (j + 1)) : Nat) : Int) by rw [hgs]; omega)
      rw [hG]
      clear hc h hx hG ha hgs hfl
      go_wp2_with fail
      refine (CA.out _).mono ?_
      rintro e w2 ⟨rfl, rfl⟩
      go_wp2
      go_roundw
      case rel => exact ⟨j + 1, by omega, by go_num, by rw [← HGS.out], by first | rfl | trivial⟩
      case measure => simp [intOf] <;> omega
    · obtain rfl : j = n := by omega
      have ht : l.take j = l := List.take_of_length_le (by rw [HL.out]; exact Nat.le_refl _)
      rw [ht]
      have hgl := gmax_lt l
      have CO := Lib.hid (fof_any (gmax l) (by omega) W (HT6.out.below (HEX.out _ hB)))
      clear ht hgl
      go_wp2_with fail
      refine CO.out.mono ?_
      rintro e w2 ⟨v, rfl, hv, hw2⟩
      obtain ⟨rb, rn, ro, rk, rc, re, rfl⟩ := hv.parts
      have hbr := hbx.below hw2
      obtain ⟨hE2, hE2'⟩ := bnext hB (by omega) hw2
      have q0 := hbr.c0
      have q1 := hbr.c1
      have q2 := hbr.c2
      have q3 := hbr.c3
      have f0 := hbr.f 0
      have f1 := hbr.f 1
      have f2 := hbr.f 2
      have f3 := hbr.f 3
      have hres := dn_stored hbr hv w hE2 (Nat.le_refl B)
      have z3 := hbr.stored rb rn ro rk rc re
      have z0 := z3.c0
      have z1 := z3.c1
      have z2 := z3.c2
      have z4 := z3.c3
      have HRES := Lib.hid hres; clear hres z3
      go_wp2
      refine bodyPost_ret (v := .agg #[.bool rb, .bool rn, .slice ro rk rc, .int .i64 re]) (by simp [results, Tryz.results50, go_sem, z0, z1, z2, z4]) rfl ⟨_, rfl, ?_, ?_⟩
      · exact HRES.out.1
      · show Below _ _ _; rw [HBe.out]; exact HRES.out.2

set_option maxRecDepth 100000 in
set_option maxHeartbeats 8000000 in
theorem anormOne_any (ao : Option Addr) (n cap : Nat) (l : List Nat) (w : World) (h : Fs w ao n cap l) (hT : Table w) (hT6 : Table64 w) (hn : n ≤ 1000000) :
    Calls Tryz.prog 52 #[.slice ao n cap] w fun e w' => ∃ v, e = .returned v ∧ Dn w' v (dtotal ((l.map fabsF).map fdy)) ∧ Ext w w' := by
  have HL := Lib.hid h.len
  have HH := Lib.hid h
  have HT6 := Lib.hid hT6
  have HT := Lib.hid hT
  clear h hT6 hT
  go_enter Tryz.func52, Tryz.ntmps52
  go_upto_region 1 with fail
  obtain ⟨W, hW, hB, hbx, hz⟩ := dbox_new w false false none 0 0 0
  rw [← hW]
  clear hW
  generalize hBe : w.heap.size = B at *
  have HBe := Lib.hid hBe
  have HEX := Lib.hid (show ∀ wx, Below B w wx → Ext w wx from fun wx h => by rw [← hBe] at h; exact h)
  clear hBe
  go_wp2_with (refine wpList_make_float _ rfl _ _ rfl _ n rfl rfl rfl (by omega) ?_)
  intro w1 hfr hw1
  obtain ⟨hE, hE'⟩ := bnext hB (by omega) hw1
  have hbx := hbx.below hw1
  have hgB : B < W.heap.size := by omega
  generalize W.heap.size = g at *
  have htb : FR w1 g n n ((l.map fabsF).take 0 ++ List.replicate (n - 0) 0) := by rw [List.take_zero, List.nil_append, Nat.sub_zero]; exact hfr
  clear hB hw1 hz hfr
  go_wp2
  go_loopw [4, 5, 11] (fun _ _ ix wr => ∃ (j : Nat), j ≤ n ∧ ix = .int .i64 j ∧ FR wr g n n ((l.map fabsF).take j ++ List.replicate (n - j) 0) ∧ Below B w wr ∧ DBox wr B false false none 0 0 0)
    (fun _ _ ix _ => n - (intOf ix).toNat)
  case atStart => exact ⟨0, Nat.zero_le _, rfl, htb, hE, hbx⟩
  case round =>
    obtain ⟨j, hj, rfl, htb, hE, hbr⟩ := hrel
    have hgl := htb.lt
    have hbl := hbr.lt
    by_cases hlt : j < n
    · have h := HH.out.below (HEX.out _ hE)
      obtain ⟨b, off, rfl, hc⟩ := h.cells (by omega)
      have hcj := hc j hlt
      have hfl := h.getD_lt j
      have hgs : ((l.map fabsF).take j ++ List.replicate (n - j) 0).set j (fabsF (l.getD j 0)) = (l.map fabsF).take (j + 1) ++ List.replicate (n - (j + 1)) 0 := by
        have hjl : j < l.length := by rw [HL.out]; exact hlt
        have hjm : j < (l.map fabsF).length := by rw [List.length_map]; exact hjl
        have hlen : ((l.map fabsF).take j).length = j := by rw [List.length_take]; omega
        rw [List.take_succ_eq_append_getElem hjm, List.set_append_right _ _ (by omega), hlen, Nat.sub_self]
        obtain ⟨k, hk⟩ : ∃ k, n - j = k + 1 := ⟨n - j - 1, by omega⟩
        rw [hk, show n - (j + 1) = k by omega, List.replicate_succ, List.set_cons_zero, List.append_assoc]
        congr 1
        simp [List.getD, hjl]
      obtain ⟨x, hx⟩ : ∃ x, l.getD j 0 = x := ⟨_, rfl⟩
      rw [hx] at hcj hfl hgs
      have CA := Lib.hid (absF_any x hfl)
      obtain ⟨a, ha⟩ : ∃ a, fabsF x = a := ⟨_, rfl⟩
      rw [ha] at CA hgs
      have hset := htb.set j a
      rw [hgs] at hset
      have ho : Only g wr (wr.setCell ⟨g, j, none⟩ (.int .u64 (a : Int))) := (Only.refl g wr).setCell _ _
      have c0 := htb.c j hlt
      have f0 := htb.f j
      have hE3 := hE.trans (ho.below (B := B) (by omega))
      have hbr3 := hbr.only ho (by omega)
      have HS := Lib.hid hset
      have HE3 := Lib.hid hE3
      have HB3 := Lib.hid hbr3
      clear hc h hx ha hgs hfl hset hE3 hbr3 ho htb
      obtain ⟨u0, hu0⟩ : ∃ u0 : Int, ((((l.map fabsF).take j ++ List.replicate (n - j) 0).getD j 0 : Nat) : Int) = u0 := ⟨_, rfl⟩
      rw [hu0] at c0
      clear hu0
      go_wp2_with fail
      refine (CA.out _).mono ?_
      rintro e w2 ⟨rfl, rfl⟩
      go_wp2
      go_roundw
      case rel => exact ⟨j + 1, by omega, by go_num, HS.out, HE3.out, HB3.out⟩
      case measure => simp [intOf] <;> omega
    · obtain rfl : j = n := by omega
      have ht : (l.map fabsF).take j ++ List.replicate (j - j) 0 = l.map fabsF := by
        rw [Nat.sub_self, List.replicate_zero, List.append_nil]
        exact List.take_of_length_le (by rw [List.length_map, HL.out]; exact Nat.le_refl _)
      rw [ht] at htb
      have hfs := htb.sl (fun x hx => by obtain ⟨f, _, rfl⟩ := List.mem_map.1 hx; exact Nat.lt_of_lt_of_le (absF_lt63 f) (by omega))
      have C := Lib.hid (asum_any _ _ _ _ wr hfs (HT.out.below (HEX.out _ hE)) (HT6.out.below (HEX.out _ hE)) (by omega))
      clear hfs ht htb
      go_wp2_with fail
      refine C.out.mono ?_
      rintro e w2 ⟨v, rfl, hv, hw2⟩
      obtain ⟨rb, rn, ro, rk, rc, re, rfl⟩ := hv.parts
      have hbr := hbr.below hw2
      obtain ⟨hE2, hE2'⟩ := bnext hE (by omega) hw2
      have q0 := hbr.c0
      have q1 := hbr.c1
      have q2 := hbr.c2
      have q3 := hbr.c3
      have f0 := hbr.f 0
      have f1 := hbr.f 1
      have f2 := hbr.f 2
      have f3 := hbr.f 3
      have hres := dn_stored hbr hv w hE2 (Nat.le_refl B)
      have z3 := hbr.stored rb rn ro rk rc re
      have z0 := z3.c0
      have z1 := z3.c1
      have z2 := z3.c2
      have z4 := z3.c3
      have HRES := Lib.hid hres; clear hres z3
      go_wp2
      refine bodyPost_ret (v := .agg #[.bool rb, .bool rn, .slice ro rk rc, .int .i64 re]) (by simp [results, Tryz.results52, go_sem, z0, z1, z2, z4]) rfl ⟨_, rfl, ?_, ?_⟩
      · exact HRES.out.1
      · show Below _ _ _; rw [HBe.out]; exact HRES.out.2

set_option maxRecDepth 100000 in
set_option maxHeartbeats 4000000 in
theorem anormTwo_any (ao : Option Addr) (n cap : Nat) (l : List Nat) (mode : Int) (w : World) (h : Fs w ao n cap l) (hT : Table w) (hT6 : Table64 w) (hn : n ≤ 1000000) :
    Calls Tryz.prog 54 #[.slice ao n cap, .int .i64 mode] w fun e w' => e = .returned (.int .u64 ((norm2 l mode : Nat) : Int)) ∧ Ext w w' := by
  obtain ⟨R, hR⟩ : ∃ R, norm2 l mode = R := ⟨_, rfl⟩
  rw [hR]
  obtain ⟨D, E, hD⟩ : ∃ D E, dotR l l = (D, E) := ⟨_, _, rfl⟩
  have hE4 := dot_err l
  unfold norm2 at hR
  rw [hD] at hR hE4
  simp only [] at hR hE4
  have CD := Lib.hid (adotR_any ao ao n n cap cap l l w h h hT hT6 hn D E hD)
  have HT := Lib.hid hT
  clear hD hT hT6
  go_enter Tryz.func54, Tryz.ntmps54
  go_wp2_with fail
  refine CD.out.mono ?_
  rintro e w1 ⟨v, rfl, hv, hw1⟩
  obtain ⟨rb, rn, ro, rk, rc, re, rfl⟩ := hv.parts
  go_upto_region 2 with fail
  obtain ⟨W, hW, hB, hbx, hz⟩ := dbox_new w1 rb rn ro rk rc re
  rw [← hW]
  clear hW
  have hv := hv.ext hB
  have hE1 : Ext w W := Ext.trans hw1 hB
  generalize w1.heap.size = B at *
  have k0 := hbx.c0
  have k1 := hbx.c1
  have k2 := hbx.c2
  have k3 := hbx.c3
  rcases hE4 with rfl | rfl
  · rw [if_pos rfl] at hR
    have CR := frootd_any _ D mode W hv.dg (HT.out.below hE1)
    rw [hR] at CR
    have CR := Lib.hid CR
    have HE1 := Lib.hid hE1
    clear hR hv hB hw1 hE1
    go_wp2_with fail
    refine CR.out.mono ?_
    rintro e w2 ⟨rfl, hw2⟩
    have HF := Lib.hid (Ext.trans HE1.out hw2)
    go_wp2
    go_ret
    exact ⟨rfl, HF.out⟩
  · rw [if_neg (by omega)] at hR
    subst hR
    have HE1 := Lib.hid hE1
    clear hv hB hw1 hE1
    go_wp2
    go_ret
    exact ⟨rfl, HE1.out⟩
end Go.Proofs.YtolghagbpnjpgaaGreatDoor

namespace Go.Proofs.YtolghagbpnjpgaaGreatDoor
open Go.RowKit

theorem aligned_cmp {d d' : Dy} {X Y E : Int} (h : Aligned d d' X Y E) : sgn3 X Y = sgn3 (sc d) (sc d') := by
  obtain ⟨_, _, h1, h2, _, _⟩ := h
  rw [h1, h2, sgn3_common]

set_option maxRecDepth 100000 in
set_option maxHeartbeats 4000000 in
theorem refDCmp_any (u v : Value) (d d' : Dy) (w : World) (hu : Dl w u d) (hv : Dl w v d') (hT : Table w) :
    Calls Tryz.prog 126 #[u, v] w fun e w' => CmpOut d d' e ∧ Ext w w' := by
  have hu0 := hu
  have hv0 := hv
  obtain ⟨ub, un, uo, uk, uc, _, uf, rfl, -⟩ := hu0
  obtain ⟨vb, vn, vo, vk, vc, _, vf, rfl, -⟩ := hv0
  go_enter Tryz.func126, Tryz.ntmps126
  go_upto_region 1 with fail
  obtain ⟨W, hW, hB, hbx, hby, hz⟩ := boxes_two_d w ub un uo uk uc uf vb vn vo vk vc vf
  rw [← hW]
  clear hW
  have hu := hu.ext hB
  have hv := hv.ext hB
  have HT0 := Lib.hid hT
  have hT := hT.below hB
  generalize hBe : w.heap.size = B at *
  have HBe := Lib.hid hBe; clear hBe
  go_cut [] from 9 (fun wx => ∃ xb xn xo xk xc xe yb yn yo yk yc ye, Dn wx (.agg #[.bool xb, .bool xn, .slice xo xk xc, .int .i64 xe]) d ∧ Dn wx (.agg #[.bool yb, .bool yn, .slice yo yk yc, .int .i64 ye]) d' ∧
    DBox wx B xb xn xo xk xc xe ∧ DBox wx (B + 1) yb yn yo yk yc ye ∧ Below B w wx ∧ (∀ k, B + 1 < k → k < W.heap.size → wx.heap[k]? = W.heap[k]?) ∧ W.heap.size ≤ wx.heap.size)
  case first =>
    have k0 := hbx.c0
    have k1 := hbx.c1
    have k2 := hbx.c2
    have k3 := hbx.c3
    have l0 := hby.c0
    have l1 := hby.c1
    have l2 := hby.c2
    have l3 := hby.c3
    go_region_with (first
      | (go_at_call 86; refine (refDNorm_any _ _ _ (by exact hu.ext (by exact (Below.refl _ _).drew)) (by exact hT.below (by exact (Below.refl _ _).drew))).mono ?_; rintro e w1 ⟨r1, rfl, hr1, hw1⟩; have ex1 : Ext W w1 := Ext.trans (by exact (Below.refl _ _).drew) hw1; obtain ⟨xb, xn, xo, xk, xc, xe, rfl⟩ := hr1.parts; have fb := hby.ext ex1; have h0 := fb.c0; have h1 := fb.c1; have h2 := fb.c2; have h3 := fb.c3)
      | (go_at_call 86; refine (refDNorm_any _ _ _ (by exact hv.ext ex1) (by exact hT.below ex1)).mono ?_; rintro e w2 ⟨r2, rfl, hr2, hw2⟩; have ex2 : Ext W w2 := Ext.trans ex1 hw2; obtain ⟨yb, yn, yo, yk, yc, ye, rfl⟩ := hr2.parts; have hr1 := hr1.ext hw2; clear h0 h1 h2 h3; have fa := hbx.ext ex2; have fb := hby.ext ex2; have a0 := fa.c0; have a1 := fa.c1; have a2 := fa.c2; have a3 := fa.c3; have b0 := fb.c0; have b1 := fb.c1; have b2 := fb.c2; have b3 := fb.c3; have g0 := fa.f 0; have g1 := fa.f 1; have g2 := fa.f 2; have g3 := fa.f 3; have h0 := fb.f 0; have h1 := fb.f 1; have h2 := fb.f 2; have h3 := fb.f 3))
    all_goals
      go_wp2
      go_meet
    all_goals
      clear a0 a1 a2 a3 b0 b1 b2 b3 g0 g1 g2 g3 h0 h1 h2 h3 k0 k1 k2 k3 l0 l1 l2 l3
      obtain ⟨hB2, hB2'⟩ := bnext hB (by omega) ex2
      obtain ⟨Z, hZ, z1, z2, z3, z4, z5, z6, z7⟩ := two_dyads fa fb (by omega) (Nat.le_refl B) (Nat.le_succ B) hr1 hr2 hB2
      rw [← hZ]
      exact ⟨_, _, _, _, _, _, _, _, _, _, _, _, z1, z2, z4, z5, z3, fun k hk1 hk2 => by rw [z6 k (by omega) (by omega)]; exact Below.block ex2 k hk2, by rw [z7]; exact Below.size ex2⟩
  case rest =>
    obtain ⟨xb, xn, xo, xk, xc, xe, yb, yn, yo, yk, yc, ye, hx, hy, bx, bY, hB1, hkeep, hzc⟩ := hcut
    have hT1 := (show Table w from HT0.out).below (w' := wc) (by rw [HBe.out]; exact hB1)
    have HT := Lib.hid hT1
    have hzz : B + 2 ≤ wc.heap.size := by omega
    clear hT1 hbx hby hu hv hT hB hkeep
    have k0 := bx.c0
    have k1 := bx.c1
    have k2 := bx.c2
    have k3 := bx.c3
    have l0 := bY.c0
    have l1 := bY.c1
    have l2 := bY.c2
    have l3 := bY.c3
    cases d with
    | none =>
      obtain rfl := dn_none hx
      go_wp2
      go_ret2
      refine ⟨Or.inl ⟨Or.inl rfl, rfl⟩, ?_⟩
      show Below _ _ _; rw [HBe.out]; exact hB1
    | some p =>
      obtain ⟨m, f⟩ := p
      obtain ⟨rfl, rfl, hm⟩ := dn_some hx
      cases d' with
      | none =>
        obtain rfl := dn_none hy
        go_wp2
        go_ret2
        refine ⟨Or.inl ⟨Or.inr rfl, rfl⟩, ?_⟩
        show Below _ _ _; rw [HBe.out]; exact hB1
      | some q =>
        obtain ⟨m', f'⟩ := q
        obtain ⟨rfl, rfl, hm'⟩ := dn_some hy
        have hnx := hx.1
        have hny := hy.1
        clear hx hy
        go_wp2_with fail
        refine (refAlign_any _ _ _ _ _ _ _ _ _ _ _ _ _ hm hm' hnx hny).mono ?_
        rintro e w1 ⟨an, ao', ak, ac, bn, bo', bk, bc, X, Y, E, rfl, hX, hY, hAl, hak, hbk, hw1⟩
        have HAL := Lib.hid (aligned_cmp hAl)
        obtain ⟨hB2, hB2'⟩ := bnext hB1 (by omega) hw1
        clear k0 k1 k2 k3 l0 l1 l2 l3 hm hm' hnx hny hAl hB1 bx bY hw1
        go_upto_region 5 with fail
        obtain ⟨V, hV, hv, e1, e2⟩ := boxes_bb w1 an ao' ak ac bn bo' bk bc
        rw [← hV]
        clear hV
        have hX := hX.below hv
        have hY := hY.below hv
        obtain ⟨hB3, hB3'⟩ := bnext hB2 (by omega) hv
        have k0 := e1.c0
        have k1 := e1.c1
        have l0 := e2.c0
        have l1 := e2.c1
        clear hv hB2
        generalize w1.heap.size = D at *
        go_wp2_with fail
        refine (refCmp_any _ _ _ _ _ _ _ _ _ _ _ hX hY hak hbk).mono ?_
        rintro e w2 ⟨rfl, hw2⟩
        obtain ⟨hB4, -⟩ := bnext hB3 (by omega) hw2
        clear k0 k1 l0 l1 hw2 hB3
        go_wp2
        go_ret2
        refine ⟨Or.inr ⟨by simp, by simp, ?_⟩, ?_⟩
        · rw [← HAL.out]; rfl
        · show Below _ _ _; rw [HBe.out]; exact hB4
end Go.Proofs.YtolghagbpnjpgaaGreatDoor

namespace Go.Proofs.YtolghagbpnjpgaaGreatDoor
open Go.RowKit

/-- is a magnitude rounded up, as the reference says it: half is -1, 0 or 1 -/
def upB (neg : Bool) (half : Int) (odd : Bool) (mode : Int) : Bool :=
  if mode = 1 then neg else if mode = 2 then !neg else if mode = 3 then false else decide (half > 0) || decide (half = 0) && odd

set_option maxRecDepth 100000 in
set_option maxHeartbeats 2000000 in
theorem refUp_any (neg : Bool) (half : Int) (odd : Bool) (mode : Int) (w : World) :
    Calls Tryz.prog 194 #[.bool neg, .int .i64 half, .bool odd, .int .i64 mode] w fun e w' => e = .returned (.bool (upB neg half odd mode)) ∧ w = w' := by
  by_cases h1 : mode = 1
  · have hr : upB neg half odd mode = neg := by unfold upB; rw [if_pos h1]
    have HR := Lib.hid hr
    clear hr
    go_enter Tryz.func194, Tryz.ntmps194
    go_wp2
    go_ret
    exact ⟨by rw [HR.out]; rfl, rfl⟩
  · by_cases h2 : mode = 2
    · have hr : upB neg half odd mode = !neg := by unfold upB; rw [if_neg h1, if_pos h2]
      have HR := Lib.hid hr
      clear hr
      go_enter Tryz.func194, Tryz.ntmps194
      go_wp2
      go_ret
      exact ⟨by rw [HR.out]; rfl, rfl⟩
    · by_cases h3 : mode = 3
      · have hr : upB neg half odd mode = false := by unfold upB; rw [if_neg h1, if_neg h2, if_pos h3]
        have HR := Lib.hid hr
        clear hr
        go_enter Tryz.func194, Tryz.ntmps194
        go_wp2
        go_ret
        exact ⟨by rw [HR.out]; rfl, rfl⟩
      · have hr : upB neg half odd mode = (decide (half > 0) || decide (half = 0) && odd) := by unfold upB; rw [if_neg h1, if_neg h2, if_neg h3]
        have HR := Lib.hid hr
        clear hr
        by_cases g1 : half > 0
        · have HQ := Lib.hid (show (decide (half > 0) || decide (half = 0) && odd) = true by rw [decide_eq_true g1]; rfl)
          go_enter Tryz.func194, Tryz.ntmps194
          go_wp2
          go_ret
          exact ⟨by rw [HR.out, HQ.out]; rfl, rfl⟩
        · by_cases g2 : half = 0
          · subst g2
            have HQ := Lib.hid (show (decide ((0 : Int) > 0) || decide ((0 : Int) = 0) && odd) = odd by cases odd <;> rfl)
            clear g1
            go_enter Tryz.func194, Tryz.ntmps194
            go_wp2
            go_ret
            exact ⟨by rw [HR.out, HQ.out]; rfl, rfl⟩
          · have HQ := Lib.hid (show (decide (half > 0) || decide (half = 0) && odd) = false by rw [decide_eq_false g1, decide_eq_false g2]; rfl)
            go_enter Tryz.func194, Tryz.ntmps194
            go_wp2
            go_ret
            exact ⟨by rw [HR.out, HQ.out]; rfl, rfl⟩

set_option maxRecDepth 100000 in
set_option maxHeartbeats 2000000 in
theorem refLost_any (nb : Bool) (ao : Option Addr) (n cap : Nat) (x : Int) (e : Nat) (b : Bool) (hb : decide (x.natAbs % 2 ^ e ≠ 0) = b) (w : World) (h : Bg w nb ao n cap x) (he : e ≤ 1048576) :
    Calls Tryz.prog 193 #[.agg #[.bool nb, .slice ao n cap], .int .i64 (e : Int)] w fun r w' => r = .returned (.bool b) ∧ Ext w w' := by
  have hsm := h.small
  obtain ⟨zs, hz, hx⟩ := h.1
  have hnum : (num zs).toNat = x.natAbs := by rw [hx, sgd_natAbs hz.wf]
  have HN := Lib.hid hnum
  have HB := Lib.hid hb
  clear h hx hnum hb
  go_enter Tryz.func193, Tryz.ntmps193
  go_upto_region 1 with fail
  obtain ⟨W, hW, hB, hbx, hz1⟩ := box_new w nb ao n cap
  rw [← hW]
  clear hW
  have hz := hz.below hB
  have HE := Lib.hid (show Ext w W from hB)
  generalize w.heap.size = B at *
  have k0 := hbx.c0
  have k1 := hbx.c1
  go_wp2_with fail
  refine (refTrim_any ao n cap zs W hz).mono ?_
  rintro r w1 ⟨ro, k, rc, rfl, hs, hk, hw1⟩
  rw [HN.out] at hs
  have C := Lib.hid (refShr_num x.natAbs e ro k rc w1 hs (by omega) (by omega))
  clear hs hz k0 k1
  go_wp2_with fail
  refine C.out.mono ?_
  rintro r w3 ⟨so, l, sc, L, rfl, hL, -, hl, hw3⟩
  rw [HB.out]
  have hfin := Lib.hid (Ext.trans (Ext.trans HE.out hw1) hw3)
  go_wp2
  go_ret
  exact ⟨rfl, hfin.out⟩
end Go.Proofs.YtolghagbpnjpgaaGreatDoor
