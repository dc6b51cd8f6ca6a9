import Derived.Test.YtekocoklfnojmaaGreatDoorIMiddleU41
import Derived.Test.YtekocoklfnojmaaGreatDoorIMiddleU17
import Derived.Test.YtekocoklfnojmaaGreatDoorIMiddleU20
import Derived.Test.YtekocoklfnojmaaGreatDoorIMiddleU23
import Derived.Test.YtekocoklfnojmaaGreatDoorIMiddleU25
namespace Go.Proofs.YtekocoklfnojmaaGreatDoor
open Go.RowKit

/-- a dyad rounded -/
def frdF (d : Dy) (mode : Int) : Nat :=
  match d with
  | none => 9221120237041090560
  | some (m, e) => rz m e mode

theorem frdF_lt (d : Dy) (mode : Int) : frdF d mode < 18446744073709551616 := by
  cases d with
  | none => show 9221120237041090560 < 18446744073709551616; omega
  | some p => exact (rz_facts p.1 p.2 mode).2

/-- the first bits and a tail are rounded like the whole -/
theorem fla_cut (neg : Bool) {X j : Nat} {e : Int} (mode : Int) {N : Nat} {T : Bool} (hN : N = X / 2 ^ j) (hT : T = decide (X % 2 ^ j ≠ 0)) (h53 : T = true → 2 ^ 53 ≤ N) (h0 : N ≠ 0) : fla neg N (e + j) T mode = fla neg X e false mode := by
  cases T with
  | true =>
    have := fla_tail neg (N := X) e false mode j (by rw [← hN]; exact h53 rfl)
    rw [Bool.false_or, ← hT, ← hN] at this
    exact this
  | false =>
    have hr : X % 2 ^ j = 0 := by simpa using hT
    have hm := Nat.div_add_mod X (2 ^ j)
    rw [hr, ← hN, Nat.add_zero, Nat.mul_comm] at hm
    exact fla_eq neg (a := j) (b := 0) mode h0 (by rw [hm, Nat.pow_zero, Nat.mul_one]) (by omega)

set_option maxRecDepth 100000 in
theorem signOfDyad_any (bb nb : Bool) (ao : Option Addr) (n ca : Nat) (f : Int) (w : World) :
    Calls Tryz.prog 141 #[.agg #[.bool bb, .bool nb, .slice ao n ca, .int .i64 f]] w fun e w' => e = .returned (.int .u64 ((sgz nb : Nat) : Int)) ∧ Ext w w' := by
  cases nb
  all_goals
    go_enter Tryz.func141, Tryz.ntmps141
    go_upto_region 1 with fail
    first
      | obtain ⟨W, hW, hB, hx, hz⟩ := dbox_new w bb false ao n ca f; rw [← hW]; clear hW
      | obtain ⟨W, hW, hB, hx, hz⟩ := dbox_new w bb true ao n ca f; rw [← hW]; clear hW
    have HB := Lib.hid (show Ext w W from hB)
    clear hB
    generalize w.heap.size = B at *
    have c1 := hx.c1
    go_wp2
    go_ret
    exact ⟨rfl, HB.out⟩

theorem Dg.parts {w : World} {v : Value} {d : Dy} (h : Dg w v d) : ∃ bb nb ao n ca f, v = .agg #[.bool bb, .bool nb, .slice ao n ca, .int .i64 f] := by
  obtain ⟨bb, nb, ao, n, ca, x, f, h1, h2⟩ := h
  exact ⟨_, _, _, _, _, _, h1⟩

/-- round, of what leading gives -/
theorem fround_rz {m e : Int} {H L : Nat} {E : Int} {T : Bool} {j : Nat} {nn : Bool} (hH : H < 18446744073709551616) (hL : L < 18446744073709551616) (hV : H * 18446744073709551616 + L = m.natAbs / 2 ^ j) (h0 : H * 18446744073709551616 + L ≠ 0) (hE : E = e + j) (hTT : T = decide (m.natAbs % 2 ^ j ≠ 0)) (h53 : T = true → 2 ^ 53 ≤ H * 18446744073709551616 + L) (hj : j ≤ 3200000)
    (he0 : -65536 ≤ e) (he1 : e ≤ 65536) (hnn : nn = decide (m < 0)) (hm : m ≠ 0) (mode : Int) (w : World) :
    Calls Tryz.prog 114 #[.agg #[.int .u64 (H : Int), .int .u64 (L : Int), .int .i64 E, .bool T], .int .u64 ((sgz nn : Nat) : Int), .int .i64 mode] w fun r w' => r = .returned (.int .u64 ((rz m e mode : Nat) : Int)) ∧ Ext w w' := by
  refine (fround_any H L E T nn mode hH hL h0 h53 (by omega) (by omega) w).mono fun r w' ⟨hr, hw⟩ => ⟨?_, hw⟩
  rw [hr, hE, fla_cut nn mode hV hTT h53 h0]
  unfold rz
  rw [if_neg hm, rnd_sgz, hnn]

set_option maxRecDepth 100000 in
set_option maxHeartbeats 4000000 in
theorem frd_none (v : Value) (mode : Int) (w : World) (hv : Dg w v none) (hT : Table w) :
    Calls Tryz.prog 86 #[v, .int .i64 mode] w fun r w' => r = .returned (.int .u64 9221120237041090560) ∧ Ext w w' := by
  obtain ⟨vb, vn, vo, vk, vc, ve, rfl⟩ := hv.parts
  have HT := Lib.hid hT
  clear hT
  go_enter Tryz.func86, Tryz.ntmps86
  go_upto_region 1 with fail
  obtain ⟨W, hW, hB, hx, hz⟩ := dbox_new w vb vn vo vk vc ve
  rw [← hW]
  clear hW
  have hd := hv.ext (show Ext w W from hB)
  have hTW := HT.out.below hB
  generalize hBe : w.heap.size = B at *
  have HBe := Lib.hid hBe
  clear hBe hv
  have c0 := hx.c0
  have c1 := hx.c1
  have c2 := hx.c2
  have c3 := hx.c3
  have HD := Lib.hid hd
  have HTW := Lib.hid hTW
  clear hd hTW
  go_wp2_with fail
  refine (dnorm_any _ _ _ HD.out HTW.out).mono ?_
  rintro r w1 ⟨v1, rfl, hd, hE⟩
  obtain ⟨nb, nn, no, nk, nc, ne, rfl⟩ := hd.parts
  obtain ⟨h1, h2, h3⟩ := hd.get
  obtain rfl : nb = true := h1
  have x1 := hx.below hE
  have b1 : Below B w w1 := hB.trans (Below.mono hE (by omega))
  clear c0 c1 c2 c3 hx hB hE
  have g0 := x1.f 0
  have g1 := x1.f 1
  have g2 := x1.f 2
  have g3 := x1.f 3
  have c0 := x1.c0
  have c1 := x1.c1
  have c2 := x1.c2
  have c3 := x1.c3
  clear hd h2 h3
  go_upto_region 2 with fail
  have ho := only_set4 w1 B (.bool true) (.bool nn) (.slice no nk nc) (.int .i64 ne)
  have x2 := x1.stored true nn no nk nc ne
  have b2 := b1.trans (ho.below (B := B) (Nat.le_refl _))
  generalize (((w1.setCell ⟨B, 0, none⟩ (.bool true)).setCell ⟨B, 1, none⟩ (.bool nn)).setCell ⟨B, 2, none⟩ (.slice no nk nc)).setCell ⟨B, 3, none⟩ (.int .i64 ne) = W2 at *
  clear c0 c1 c2 c3 g0 g1 g2 g3 x1 b1 ho
  have c0 := x2.c0
  have B2 := Lib.hid b2
  clear b2
  go_wp2
  go_ret
  refine ⟨rfl, ?_⟩
  show Below _ _ _
  rw [HBe.out]
  exact B2.out

set_option maxRecDepth 100000 in
set_option maxHeartbeats 4000000 in
theorem frd_some (v : Value) (m e mode : Int) (w : World) (hv : Dg w v (some (m, e))) (hT : Table w) :
    Calls Tryz.prog 86 #[v, .int .i64 mode] w fun r w' => r = .returned (.int .u64 ((rz m e mode : Nat) : Int)) ∧ Ext w w' := by
  obtain ⟨vb, vn, vo, vk, vc, ve, rfl⟩ := hv.parts
  have HT := Lib.hid hT
  clear hT
  go_enter Tryz.func86, Tryz.ntmps86
  go_upto_region 1 with fail
  obtain ⟨W, hW, hB, hx, hz⟩ := dbox_new w vb vn vo vk vc ve
  rw [← hW]
  clear hW
  have hd := hv.ext (show Ext w W from hB)
  have hTW := HT.out.below hB
  generalize hBe : w.heap.size = B at *
  have HBe := Lib.hid hBe
  clear hBe hv
  have c0 := hx.c0
  have c1 := hx.c1
  have c2 := hx.c2
  have c3 := hx.c3
  have HD := Lib.hid hd
  have HTW := Lib.hid hTW
  clear hd hTW
  go_wp2_with fail
  refine (dnorm_any _ _ _ HD.out HTW.out).mono ?_
  rintro r w1 ⟨v1, rfl, hd, hE⟩
  obtain ⟨nb, nn, no, nk, nc, ne, rfl⟩ := hd.parts
  obtain ⟨h1, h2, h3⟩ := hd.get
  obtain rfl : nb = false := h1
  have x1 := hx.below hE
  have b1 : Below B w w1 := hB.trans (Below.mono hE (by omega))
  clear c0 c1 c2 c3 hx hB hE
  have g0 := x1.f 0
  have g1 := x1.f 1
  have g2 := x1.f 2
  have g3 := x1.f 3
  have c0 := x1.c0
  have c1 := x1.c1
  have c2 := x1.c2
  have c3 := x1.c3
  obtain rfl : ne = e := h2
  have hbn : Bn w1 nn no nk nc m := h3
  have hnd : Nd (some (m, ne)) := hd.1
  have HNN := Lib.hid hbn.neg
  clear hd h3
  go_upto_region 2 with fail
  have hsl := hbn.sl
  have ho := only_set4 w1 B (.bool false) (.bool nn) (.slice no nk nc) (.int .i64 ne)
  have x2 := x1.stored false nn no nk nc ne
  have s2 := hsl.only_dbox x1 ho
  have n2 := hbn.only_dbox x1 ho
  have b2 := b1.trans (ho.below (B := B) (Nat.le_refl _))
  generalize (((w1.setCell ⟨B, 0, none⟩ (.bool false)).setCell ⟨B, 1, none⟩ (.bool nn)).setCell ⟨B, 2, none⟩ (.slice no nk nc)).setCell ⟨B, 3, none⟩ (.int .i64 ne) = W2 at *
  clear c0 c1 c2 c3 g0 g1 g2 g3 x1 b1 ho hsl hbn
  have hnk : nk ≤ 4096 := by
    rw [← s2.len]
    have h4 := (nd_blen hnd).1
    exact limbs_of_blen (a := m.natAbs) (k := 4096) (show blen m.natAbs ≤ 131072 from h4)
  have hne := (nd_blen hnd).2
  have hne0 : -65536 ≤ ne := hne.1
  have hne1 : ne ≤ 65536 := hne.2
  clear hne
  have CS := Lib.hid (fun wx (h : Ext W2 wx) => sign_any nn no nk nc m wx ((n2.below h).bg (by omega)))
  have CG := Lib.hid (signOfDyad_any false nn no nk nc ne)
  have hcells : ∀ wx, Ext W2 wx → (wx.cell? ⟨B, 0, none⟩ = some (.bool false) ∧ wx.cell? ⟨B, 1, none⟩ = some (.bool nn) ∧ wx.cell? ⟨B, 2, none⟩ = some (.slice no nk nc) ∧ wx.cell? ⟨B, 3, none⟩ = some (.int .i64 ne)) := fun wx h => ⟨(x2.ext h).c0, (x2.ext h).c1, (x2.ext h).c2, (x2.ext h).c3⟩
  have HC := Lib.hid hcells
  have B2 := Lib.hid (And.intro b2 x2.lt)
  have HND := Lib.hid hnd
  have S2 := Lib.hid s2
  clear hcells s2 n2 x2 b2 hnd
  obtain ⟨c0, c1, c2, c3⟩ := HC.out W2 (Ext.refl _)
  by_cases hm : m = 0
  · have v1 : sgn3 m 0 = 0 := by rw [hm]; decide
    go_wp2_with fail
    refine (CS.out _ (Ext.refl _)).mono ?_
    rintro r w3 ⟨rfl, hE⟩
    have E3 : Ext W2 w3 := hE
    clear c0 c1 c2 c3 hE
    go_wp2
    go_ret
    refine ⟨by unfold rz; rw [if_pos hm]; rfl, ?_⟩
    show Below _ _ _
    rw [HBe.out]
    exact B2.out.1.trans (Below.mono E3 (by have := B2.out.2; omega))
  · have hodd : m.natAbs % 2 = 1 := by
      rcases HND.out with ⟨h, _⟩ | ⟨h, _⟩
      · exact absurd h hm
      · exact h
    have v1 : (sgn3 m 0 == 0) = false := by rw [beq_eq_false_iff_ne]; unfold sgn3; split <;> (try split) <;> omega
    have CL := Lib.hid (fun wx (h : Ext W2 wx) => flead_any no nk nc m.natAbs ne wx (S2.out.below h) hodd (by omega) (by omega) (by omega))
    have CR := Lib.hid (fun (H L : Nat) (E : Int) (T : Bool) (j : Nat) (hH : H < 18446744073709551616) (hL : L < 18446744073709551616) (hV : H * 18446744073709551616 + L = m.natAbs / 2 ^ j) (h0 : H * 18446744073709551616 + L ≠ 0) (hE : E = ne + j) (hTT : T = decide (m.natAbs % 2 ^ j ≠ 0)) (h53 : T = true → 2 ^ 53 ≤ H * 18446744073709551616 + L) (hj : j ≤ 3200000) (wx : World) =>
      fround_rz (m := m) (e := ne) hH hL hV h0 hE hTT h53 hj (by omega) (by omega) HNN.out hm mode wx)
    clear hodd
    go_wp2_with fail
    refine (CS.out _ (Ext.refl _)).mono ?_
    rintro r w3 ⟨rfl, hE⟩
    have E3 : Ext W2 w3 := hE
    clear c0 c1 c2 c3 hE
    obtain ⟨c0, c1, c2, c3⟩ := HC.out w3 E3
    go_upto_region 6 with fail
    clear v1
    have e0 : Ext W2 w3.drew := Ext.trans E3 ((Below.refl _ _).drew)
    go_region_held3 (fun wx => wx.cell? ⟨B, 0, none⟩ = some (.bool false) ∧ wx.cell? ⟨B, 1, none⟩ = some (.bool nn) ∧ wx.cell? ⟨B, 2, none⟩ = some (.slice no nk nc) ∧ wx.cell? ⟨B, 3, none⟩ = some (.int .i64 ne))
      (first | exact HC.out _ (by assumption))
      (first
        | (go_at_call 140; refine (CL.out _ (by assumption)).mono ?_; rintro e wn ⟨H, L, E, T, j, rfl, hH, hL, hV, h0, hE, hTT, h53, hj, hE1⟩; have CR := Lib.hid (CR.out H L E T j hH hL hV h0 hE hTT h53 hj); clear hV h0 hE hTT h53 hj; have e1 : Ext W2 wn := Ext.trans (by assumption) hE1)
        | (go_at_call 141; refine (CG.out _).mono ?_; rintro e wn ⟨rfl, hE1⟩; have e1 : Ext W2 wn := Ext.trans (by assumption) hE1)
        | (go_at_call 114; refine (CR.out _).mono ?_; rintro e wn ⟨rfl, hE1⟩; have e1 : Ext W2 wn := Ext.trans (by assumption) hE1))
    all_goals
      have EF : Ext W2 wn := by assumption
      go_wp2
      go_ret
      refine ⟨rfl, ?_⟩
      show Below _ _ _
      rw [HBe.out]
      exact B2.out.1.trans (Below.mono EF (by have := B2.out.2; omega))

theorem frd_any (v : Value) (d : Dy) (mode : Int) (w : World) (hv : Dg w v d) (hT : Table w) :
    Calls Tryz.prog 86 #[v, .int .i64 mode] w fun r w' => r = .returned (.int .u64 ((frdF d mode : Nat) : Int)) ∧ Ext w w' := by
  cases d with
  | none => exact frd_none v mode w hv hT
  | some p => exact frd_some v p.1 p.2 mode w hv hT
end Go.Proofs.YtekocoklfnojmaaGreatDoor
