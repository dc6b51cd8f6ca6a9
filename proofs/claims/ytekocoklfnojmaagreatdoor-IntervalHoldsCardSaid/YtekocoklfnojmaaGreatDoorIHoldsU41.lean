import Derived.Test.YtekocoklfnojmaaGreatDoorIHoldsU40
import Derived.Test.YtekocoklfnojmaaGreatDoorIHoldsU17
import Derived.Test.YtekocoklfnojmaaGreatDoorIHoldsU21
import Derived.Test.YtekocoklfnojmaaGreatDoorIHoldsU24
import Derived.Test.YtekocoklfnojmaaGreatDoorIHoldsU26
import Derived.Test.YtekocoklfnojmaaGreatDoorIHoldsU22
import Derived.Test.YtekocoklfnojmaaGreatDoorIHoldsU30
import Derived.Test.YtekocoklfnojmaaGreatDoorIHoldsU39
namespace Go.Proofs.YtekocoklfnojmaaGreatDoor
open Go.RowKit

/-- a dyad rounded -/
def frdF (d : Dy) (mode : Int) : Nat :=
  match d with
  | none => 9221120237041090560
  | some (m, e) => rz m e mode

theorem frdF_lt (d : Dy) (mode : Int) : frdF d mode < 18446744073709551616 := by
  cases d with
  | none => show 9221120237041090560 < 18446744073709551616; omega
  | some p => exact (rz_facts p.1 p.2 mode).2

/-- the first bits and a tail are rounded like the whole -/
theorem fla_cut (neg : Bool) {X j : Nat} {e : Int} (mode : Int) {N : Nat} {T : Bool} (hN : N = X / 2 ^ j) (hT : T = decide (X % 2 ^ j ≠ 0)) (h53 : T = true → 2 ^ 53 ≤ N) (h0 : N ≠ 0) : fla neg N (e + j) T mode = fla neg X e false mode := by
  cases T with
  | true =>
    have := fla_tail neg (N := X) e false mode j (by rw [← hN]; exact h53 rfl)
    rw [Bool.false_or, ← hT, ← hN] at this
    exact this
  | false =>
    have hr : X % 2 ^ j = 0 := by simpa using hT
    have hm := Nat.div_add_mod X (2 ^ j)
    rw [hr, ← hN, Nat.add_zero, Nat.mul_comm] at hm
    exact fla_eq neg (a := j) (b := 0) mode h0 (by rw [hm, Nat.pow_zero, Nat.mul_one]) (by omega)

set_option maxRecDepth 100000 in
theorem signOfDyad_any (bb nb : Bool) (ao : Option Addr) (n ca : Nat) (f : Int) (w : World) :
    Calls Tryz.prog 141 #[.agg #[.bool bb, .bool nb, .slice ao n ca, .int .i64 f]] w fun e w' => e = .returned (.int .u64 ((sgz nb : Nat) : Int)) ∧ Ext w w' := by
  cases nb
  all_goals
    go_enter Tryz.func141, Tryz.ntmps141
    go_upto_region 1 with fail
    first
      | obtain ⟨W, hW, hB, hx, hz⟩ := dbox_new w bb false ao n ca f; rw [← hW]; clear hW
      | obtain ⟨W, hW, hB, hx, hz⟩ := dbox_new w bb true ao n ca f; rw [← hW]; clear hW
    have HB := Lib.hid (show Ext w W from hB)
    clear hB
    generalize w.heap.size = B at *
    have c1 := hx.c1
    go_wp2
    go_ret
    exact ⟨rfl, HB.out⟩

theorem Dg.parts {w : World} {v : Value} {d : Dy} (h : Dg w v d) : ∃ bb nb ao n ca f, v = .agg #[.bool bb, .bool nb, .slice ao n ca, .int .i64 f] := by
  obtain ⟨bb, nb, ao, n, ca, x, f, h1, h2⟩ := h
  exact ⟨_, _, _, _, _, _, h1⟩

/-- round, of what leading gives -/
theorem fround_rz {m e : Int} {H L : Nat} {E : Int} {T : Bool} {j : Nat} {nn : Bool} (hH : H < 18446744073709551616) (hL : L < 18446744073709551616) (hV : H * 18446744073709551616 + L = m.natAbs / 2 ^ j) (h0 : H * 18446744073709551616 + L ≠ 0) (hE : E = e + j) (hTT : T = decide (m.natAbs % 2 ^ j ≠ 0)) (h53 : T = true → 2 ^ 53 ≤ H * 18446744073709551616 + L) (hj : j ≤ 3200000)
    (he0 : -65536 ≤ e) (he1 : e ≤ 65536) (hnn : nn = decide (m < 0)) (hm : m ≠ 0) (mode : Int) (w : World) :
    Calls Tryz.prog 114 #[.agg #[.int .u64 (H : Int), .int .u64 (L : Int), .int .i64 E, .bool T], .int .u64 ((sgz nn : Nat) : Int), .int .i64 mode] w fun r w' => r = .returned (.int .u64 ((rz m e mode : Nat) : Int)) ∧ Ext w w' := by
  refine (fround_any H L E T nn mode hH hL h0 h53 (by omega) (by omega) w).mono fun r w' ⟨hr, hw⟩ => ⟨?_, hw⟩
  rw [hr, hE, fla_cut nn mode hV hTT h53 h0]
  unfold rz
  rw [if_neg hm, rnd_sgz, hnn]

set_option maxRecDepth 100000 in
set_option maxHeartbeats 4000000 in
theorem frd_none (v : Value) (mode : Int) (w : World) (hv : Dg w v none) (hT : Table w) :
    Calls Tryz.prog 86 #[v, .int .i64 mode] w fun r w' => r = .returned (.int .u64 9221120237041090560) ∧ Ext w w' := by
  obtain ⟨vb, vn, vo, vk, vc, ve, rfl⟩ := hv.parts
  have HT := Lib.hid hT
  clear hT
  go_enter Tryz.func86, Tryz.ntmps86
  go_upto_region 1 with fail
  obtain ⟨W, hW, hB, hx, hz⟩ := dbox_new w vb vn vo vk vc ve
  rw [← hW]
  clear hW
  have hd := hv.ext (show Ext w W from hB)
  have hTW := HT.out.below hB
  generalize hBe : w.heap.size = B at *
  have HBe := Lib.hid hBe
  clear hBe hv
  have c0 := hx.c0
  have c1 := hx.c1
  have c2 := hx.c2
  have c3 := hx.c3
  have HD := Lib.hid hd
  have HTW := Lib.hid hTW
  clear hd hTW
  go_wp2_with fail
  refine (dnorm_any _ _ _ HD.out HTW.out).mono ?_
  rintro r w1 ⟨v1, rfl, hd, hE⟩
  obtain ⟨nb, nn, no, nk, nc, ne, rfl⟩ := hd.parts
  obtain ⟨h1, h2, h3⟩ := hd.get
  obtain rfl : nb = true := h1
  have x1 := hx.below hE
  have b1 : Below B w w1 := hB.trans (Below.mono hE (by omega))
  clear c0 c1 c2 c3 hx hB hE
  have g0 := x1.f 0
  have g1 := x1.f 1
  have g2 := x1.f 2
  have g3 := x1.f 3
  have c0 := x1.c0
  have c1 := x1.c1
  have c2 := x1.c2
  have c3 := x1.c3
  clear hd h2 h3
  go_upto_region 2 with fail
  have ho := only_set4 w1 B (.bool true) (.bool nn) (.slice no nk nc) (.int .i64 ne)
  have x2 := x1.stored true nn no nk nc ne
  have b2 := b1.trans (ho.below (B := B) (Nat.le_refl _))
  generalize (((w1.setCell ⟨B, 0, none⟩ (.bool true)).setCell ⟨B, 1, none⟩ (.bool nn)).setCell ⟨B, 2, none⟩ (.slice no nk nc)).setCell ⟨B, 3, none⟩ (.int .i64 ne) = W2 at *
  clear c0 c1 c2 c3 g0 g1 g2 g3 x1 b1 ho
  have c0 := x2.c0
  have B2 := Lib.hid b2
  clear b2
  go_wp2
  go_ret
  refine ⟨rfl, ?_⟩
  show Below _ _ _
  rw [HBe.out]
  exact B2.out

set_option maxRecDepth 100000 in
set_option maxHeartbeats 4000000 in
theorem frd_some (v : Value) (m e mode : Int) (w : World) (hv : Dg w v (some (m, e))) (hT : Table w) :
    Calls Tryz.prog 86 #[v, .int .i64 mode] w fun r w' => r = .returned (.int .u64 ((rz m e mode : Nat) : Int)) ∧ Ext w w' := by
  obtain ⟨vb, vn, vo, vk, vc, ve, rfl⟩ := hv.parts
  have HT := Lib.hid hT
  clear hT
  go_enter Tryz.func86, Tryz.ntmps86
  go_upto_region 1 with fail
  obtain ⟨W, hW, hB, hx, hz⟩ := dbox_new w vb vn vo vk vc ve
  rw [← hW]
  clear hW
  have hd := hv.ext (show Ext w W from hB)
  have hTW := HT.out.below hB
  generalize hBe : w.heap.size = B at *
  have HBe := Lib.hid hBe
  clear hBe hv
  have c0 := hx.c0
  have c1 := hx.c1
  have c2 := hx.c2
  have c3 := hx.c3
  have HD := Lib.hid hd
  have HTW := Lib.hid hTW
  clear hd hTW
  go_wp2_with fail
  refine (dnorm_any _ _ _ HD.out HTW.out).mono ?_
  rintro r w1 ⟨v1, rfl, hd, hE⟩
  obtain ⟨nb, nn, no, nk, nc, ne, rfl⟩ := hd.parts
  obtain ⟨h1, h2, h3⟩ := hd.get
  obtain rfl : nb = false := h1
  have x1 := hx.below hE
  have b1 : Below B w w1 := hB.trans (Below.mono hE (by omega))
  clear c0 c1 c2 c3 hx hB hE
  have g0 := x1.f 0
  have g1 := x1.f 1
  have g2 := x1.f 2
  have g3 := x1.f 3
  have c0 := x1.c0
  have c1 := x1.c1
  have c2 := x1.c2
  have c3 := x1.c3
  obtain rfl : ne = e := h2
  have hbn : Bn w1 nn no nk nc m := h3
  have hnd : Nd (some (m, ne)) := hd.1
  have HNN := Lib.hid hbn.neg
  clear hd h3
  go_upto_region 2 with fail
  have hsl := hbn.sl
  have ho := only_set4 w1 B (.bool false) (.bool nn) (.slice no nk nc) (.int .i64 ne)
  have x2 := x1.stored false nn no nk nc ne
  have s2 := hsl.only_dbox x1 ho
  have n2 := hbn.only_dbox x1 ho
  have b2 := b1.trans (ho.below (B := B) (Nat.le_refl _))
  generalize (((w1.setCell ⟨B, 0, none⟩ (.bool false)).setCell ⟨B, 1, none⟩ (.bool nn)).setCell ⟨B, 2, none⟩ (.slice no nk nc)).setCell ⟨B, 3, none⟩ (.int .i64 ne) = W2 at *
  clear c0 c1 c2 c3 g0 g1 g2 g3 x1 b1 ho hsl hbn
  have hnk : nk ≤ 4096 := by
    rw [← s2.len]
    have h4 := (nd_blen hnd).1
    exact limbs_of_blen (a := m.natAbs) (k := 4096) (show blen m.natAbs ≤ 131072 from h4)
  have hne := (nd_blen hnd).2
  have hne0 : -65536 ≤ ne := hne.1
  have hne1 : ne ≤ 65536 := hne.2
  clear hne
  have CS := Lib.hid (fun wx (h : Ext W2 wx) => sign_any nn no nk nc m wx ((n2.below h).bg (by omega)))
  have CG := Lib.hid (signOfDyad_any false nn no nk nc ne)
  have hcells : ∀ wx, Ext W2 wx → (wx.cell? ⟨B, 0, none⟩ = some (.bool false) ∧ wx.cell? ⟨B, 1, none⟩ = some (.bool nn) ∧ wx.cell? ⟨B, 2, none⟩ = some (.slice no nk nc) ∧ wx.cell? ⟨B, 3, none⟩ = some (.int .i64 ne)) := fun wx h => ⟨(x2.ext h).c0, (x2.ext h).c1, (x2.ext h).c2, (x2.ext h).c3⟩
  have HC := Lib.hid hcells
  have B2 := Lib.hid (And.intro b2 x2.lt)
  have HND := Lib.hid hnd
  have S2 := Lib.hid s2
  clear hcells s2 n2 x2 b2 hnd
  obtain ⟨c0, c1, c2, c3⟩ := HC.out W2 (Ext.refl _)
  by_cases hm : m = 0
  · have v1 : sgn3 m 0 = 0 := by rw [hm]; decide
    go_wp2_with fail
    refine (CS.out _ (Ext.refl _)).mono ?_
    rintro r w3 ⟨rfl, hE⟩
    have E3 : Ext W2 w3 := hE
    clear c0 c1 c2 c3 hE
    go_wp2
    go_ret
    refine ⟨by unfold rz; rw [if_pos hm]; rfl, ?_⟩
    show Below _ _ _
    rw [HBe.out]
    exact B2.out.1.trans (Below.mono E3 (by have := B2.out.2; omega))
  · have hodd : m.natAbs % 2 = 1 := by
      rcases HND.out with ⟨h, _⟩ | ⟨h, _⟩
      · exact absurd h hm
      · exact h
    have v1 : (sgn3 m 0 == 0) = false := by rw [beq_eq_false_iff_ne]; unfold sgn3; split <;> (try split) <;> omega
    have CL := Lib.hid (fun wx (h : Ext W2 wx) => flead_any no nk nc m.natAbs ne wx (S2.out.below h) hodd (by omega) (by omega) (by omega))
    have CR := Lib.hid (fun (H L : Nat) (E : Int) (T : Bool) (j : Nat) (hH : H < 18446744073709551616) (hL : L < 18446744073709551616) (hV : H * 18446744073709551616 + L = m.natAbs / 2 ^ j) (h0 : H * 18446744073709551616 + L ≠ 0) (hE : E = ne + j) (hTT : T = decide (m.natAbs % 2 ^ j ≠ 0)) (h53 : T = true → 2 ^ 53 ≤ H * 18446744073709551616 + L) (hj : j ≤ 3200000) (wx : World) =>
      fround_rz (m := m) (e := ne) hH hL hV h0 hE hTT h53 hj (by omega) (by omega) HNN.out hm mode wx)
    clear hodd
    go_wp2_with fail
    refine (CS.out _ (Ext.refl _)).mono ?_
    rintro r w3 ⟨rfl, hE⟩
    have E3 : Ext W2 w3 := hE
    clear c0 c1 c2 c3 hE
    obtain ⟨c0, c1, c2, c3⟩ := HC.out w3 E3
    go_upto_region 6 with fail
    clear v1
    have e0 : Ext W2 w3.drew := Ext.trans E3 ((Below.refl _ _).drew)
    go_region_held3 (fun wx => wx.cell? ⟨B, 0, none⟩ = some (.bool false) ∧ wx.cell? ⟨B, 1, none⟩ = some (.bool nn) ∧ wx.cell? ⟨B, 2, none⟩ = some (.slice no nk nc) ∧ wx.cell? ⟨B, 3, none⟩ = some (.int .i64 ne))
      (first | exact HC.out _ (by assumption))
      (first
        | (go_at_call 140; refine (CL.out _ (by assumption)).mono ?_; rintro e wn ⟨H, L, E, T, j, rfl, hH, hL, hV, h0, hE, hTT, h53, hj, hE1⟩; have CR := Lib.hid (CR.out H L E T j hH hL hV h0 hE hTT h53 hj); clear hV h0 hE hTT h53 hj; have e1 : Ext W2 wn := Ext.trans (by assumption) hE1)
        | (go_at_call 141; refine (CG.out _).mono ?_; rintro e wn ⟨rfl, hE1⟩; have e1 : Ext W2 wn := Ext.trans (by assumption) hE1)
        | (go_at_call 114; refine (CR.out _).mono ?_; rintro e wn ⟨rfl, hE1⟩; have e1 : Ext W2 wn := Ext.trans (by assumption) hE1))
    all_goals
      have EF : Ext W2 wn := by assumption
      go_wp2
      go_ret
      refine ⟨rfl, ?_⟩
      show Below _ _ _
      rw [HBe.out]
      exact B2.out.1.trans (Below.mono EF (by have := B2.out.2; omega))

theorem frd_any (v : Value) (d : Dy) (mode : Int) (w : World) (hv : Dg w v d) (hT : Table w) :
    Calls Tryz.prog 86 #[v, .int .i64 mode] w fun r w' => r = .returned (.int .u64 ((frdF d mode : Nat) : Int)) ∧ Ext w w' := by
  cases d with
  | none => exact frd_none v mode w hv hT
  | some p => exact frd_some v p.1 p.2 mode w hv hT
end Go.Proofs.YtekocoklfnojmaaGreatDoor

namespace Go.Proofs.YtekocoklfnojmaaGreatDoor
open Go.RowKit

theorem frd_at {v : Value} {d : Dy} {mode : Int} {r : Nat} {w : World} (hv : Dg w v d) (hT : Table w) (h : frdF d mode = r) : Calls Tryz.prog 86 #[v, .int .i64 mode] w fun e w' => e = .returned (.int .u64 (r : Int)) ∧ Ext w w' := by rw [← h]; exact frd_any v d mode w hv hT
theorem fma_lt {a b c : Nat} (mode : Int) (hc : c < 18446744073709551616) : fmaF a b c mode < 18446744073709551616 := by
  have h1 := sgz_le (fneg a != fneg b)
  have h2 := (cancel_num mode).2.1
  have h3 := fun S m => (rsum_num S m mode).2
  unfold fmaF
  repeat' split
  all_goals first | omega | exact h3 _ _
theorem fadd_lt {a b : Nat} (mode : Int) (hb : b < 18446744073709551616) : faddF a b mode < 18446744073709551616 := fma_lt mode hb
theorem fdiv_lt {a b : Nat} (mode : Int) : fdivF a b mode < 18446744073709551616 := by
  have h1 := sgz_le (fneg a != fneg b)
  have h3 := fun N e t => fla_le (fneg a != fneg b) N e t mode
  unfold fdivF
  repeat' split
  all_goals first | omega | (have := h3 (quoX (sig a) / quoY (sig b)) (quoE (sig a) (sig b) (-1074 + (fsh a : Int)) (-1074 + (fsh b : Int))) (decide (quoX (sig a) % quoY (sig b) ≠ 0)); omega)
end Go.Proofs.YtekocoklfnojmaaGreatDoor

namespace Go.Proofs.YtekocoklfnojmaaGreatDoor

/-- a result's place in the order, where a NaN counts as zero -/
def rk (x : Nat) : Int := frank (nz x)
theorem nz_num {x : Nat} (h : nanB x = false) : nz x = x := by unfold nz; rw [h]; rfl
theorem rk_num {x : Nat} (h : nanB x = false) : rk x = frank x := by unfold rk; rw [nz_num h]
theorem nz_not (x : Nat) : nanB (nz x) = false := by
  unfold nz
  cases h : nanB x
  · simp only [Bool.false_eq_true, if_false]; exact h
  · simp only [if_true]; decide
theorem rk_le (x : Nat) : -9218868437227405312 ≤ rk x ∧ rk x ≤ 9218868437227405312 := rank_le (nz_not x)
theorem rk_nan {x : Nat} (h : nanB x = true) : rk x = 0 := by
  unfold rk nz; rw [h]; simp [frank_zero (show fmag 0 = 0 by decide)]
theorem rk_neg {x : Nat} (h : x < 18446744073709551616) : rk (fnegF x) = -rk x := by
  cases hn : nanB x with
  | true => rw [rk_nan hn, neg_nan hn, rk_nan (by decide)]; rfl
  | false =>
    obtain ⟨h1, h2, -⟩ := neg_rank h hn
    rw [rk_num hn, rk_num h1, h2]

/-- rounded downward no number becomes the upper infinity -/
theorem fla_dirs {N : Nat} (h0 : N ≠ 0) (e : Int) : fla false N e false 1 < 9218868437227405312 ∧ fla false N e false 1 ≤ fla false N e false 2 ∧ fla true N e false 2 < 9218868437227405312 ∧ fla true N e false 2 ≤ fla true N e false 1 := by
  obtain ⟨T, hT⟩ : ∃ T : Nat, T = max 1074 (-e).toNat := ⟨_, rfl⟩
  rcases fla_spec h0 e (T := T) (by omega) (by omega) with ⟨lo, h1, h2, _⟩ | ⟨lo, b, h⟩
  · rw [h2, h2, h2, h2]; exact ⟨h1, Nat.le_refl _, h1, Nat.le_refl _⟩
  · have hl := h.lt
    rw [h.val, h.val, h.val, h.val]
    unfold fraise
    simp
    omega
theorem rz_dirs (S e : Int) : frank (rz S e 1) < 9218868437227405312 ∧ frank (rz S e 1) ≤ frank (rz S e 2) ∧ -9218868437227405312 < frank (rz S e 2) := by
  obtain ⟨p1, p2, p3⟩ := rank_sign S e 1
  obtain ⟨q1, q2, q3⟩ := rank_sign S e 2
  rcases Int.lt_trichotomy S 0 with h | h | h
  · obtain ⟨a1, a2, a3, a4⟩ := fla_dirs (N := S.natAbs) (by omega) e
    rw [p1 h, q1 h]; omega
  · rw [p3 h, q3 h]; omega
  · obtain ⟨a1, a2, a3, a4⟩ := fla_dirs (N := S.natAbs) (by omega) e
    rw [p2 h, q2 h]; omega

theorem mul_fin_rank {a b : Nat} (mode : Int) (fa : finB a = true) (fb : finB b = true) : nanB (fmulF a b mode) = false ∧ frank (fmulF a b mode) = frank (rz (fzs a * fzs b) (-2148) mode) := by
  refine ⟨(mul_num mode fa fb).1, ?_⟩
  cases za : zeroB a with
  | true =>
    rw [frank_zero (mul_zero_left mode za fb), zero_fzs za, Int.zero_mul]
    exact (frank_zero (by unfold rz; rw [if_pos rfl]; decide)).symm
  | false =>
    cases zb : zeroB b with
    | true =>
      rw [fmulF_comm, frank_zero (mul_zero_left mode zb fa), zero_fzs zb, Int.mul_zero]
      exact (frank_zero (by unfold rz; rw [if_pos rfl]; decide)).symm
    | false =>
      have hne : fzs a * fzs b ≠ 0 := Int.mul_ne_zero (nz_fzs za) (nz_fzs zb)
      rw [mul_form, (fin_not fa).1, (fin_not fa).2, (fin_not fb).1, (fin_not fb).2, za, zb, ← fzs_prod]
      simp only [Bool.or_false, Bool.false_and, Bool.false_eq_true, if_false]
      unfold rsum rz
      rw [if_neg hne, if_neg hne]
theorem fzs_rank {a b : Nat} (ha : nanB a = false) (hb : nanB b = false) : (frank a ≤ frank b ↔ fzs a ≤ fzs b) := by
  obtain ⟨h1, h2⟩ := fs_rank (T := 1074) hb ha
  rw [fs_fzs, fs_fzs] at h1
  omega
theorem fzs_sign {a : Nat} (ha : nanB a = false) : (0 ≤ frank a ↔ 0 ≤ fzs a) ∧ (frank a ≤ 0 ↔ fzs a ≤ 0) := by
  have h1 := fzs_rank (show nanB 0 = false by decide) ha
  have h2 := fzs_rank ha (show nanB 0 = false by decide)
  rw [frank_zero (show fmag 0 = 0 by decide), zero_fzs (show zeroB 0 = true by decide)] at h1 h2
  exact ⟨h1, h2⟩
theorem vs_le {S S' e : Int} {T : Nat} (h : S ≤ S') : vs S e T ≤ vs S' e T := Int.mul_le_mul_of_nonneg_right h (Int.le_of_lt (Int.pow_pos (by omega)))
theorem rz_le {S S' e : Int} (h : S ≤ S') (mode : Int) : frank (rz S e mode) ≤ frank (rz S' e mode) := by
  obtain ⟨T, hT⟩ : ∃ T : Nat, T = max 1074 (-e).toNat := ⟨_, rfl⟩
  exact rz_mono (T := T) (by omega) (by omega) (by omega) (vs_le h) mode
theorem zero_rank {e : Nat} : frank e = 0 ↔ zeroB e = true := by
  unfold zeroB frank
  rw [decide_eq_true_iff]
  split <;> omega
theorem mul_by_zero {t e : Nat} (mode : Int) (ht : nanB t = false) (hz : zeroB e = true) : rk (fmulF t e mode) = 0 := by
  rcases fin_or ht with h | h
  · have h2 := (mul_fin_rank mode h (show finB e = true from by
      have := (zero_not hz).2.2.1
      exact decide_eq_true (by omega)))
    rw [rk_num h2.1, h2.2, zero_fzs hz, Int.mul_zero]
    exact frank_zero (by unfold rz; rw [if_pos rfl]; decide)
  · refine rk_nan ?_
    rw [mul_form, h, hz]
    simp
    decide
theorem mul_by_inf {t e : Nat} (mode : Int) (ht : nanB t = false) (zt : zeroB t = false) (ie : infB e = true) : rk (fmulF t e mode) = if fneg t != fneg e then -9218868437227405312 else 9218868437227405312 := by
  have hv : fmulF t e mode = sgz (fneg t != fneg e) + 9218868437227405312 := by
    obtain ⟨n1, n2⟩ := inf_not ie
    rw [mul_form, ht, n1, zt, n2, ie]
    simp
  have hn : nanB (sgz (fneg t != fneg e) + 9218868437227405312) = false := by cases (fneg t != fneg e) <;> decide
  rw [hv, rk_num hn, rank_sgz _ (Nat.le_refl _)]
  rfl
theorem sign_rank {t : Nat} (zt : zeroB t = false) : (fneg t = true → frank t < 0) ∧ (fneg t = false → 0 < frank t) := by
  have h0 : fmag t ≠ 0 := of_decide_eq_false zt
  unfold frank
  constructor
  · intro h; rw [h]; simp; omega
  · intro h; rw [h]; simp; omega
theorem inf_ends {t : Nat} (h : infB t = true) : (fneg t = true ∧ frank t = -9218868437227405312) ∨ (fneg t = false ∧ frank t = 9218868437227405312) := by
  have h0 : fmag t = 9218868437227405312 := of_decide_eq_true h
  unfold frank
  cases fneg t
  · right; simp [h0]
  · left; simp [h0]
/-- products by a number that is not negative keep the order -/
theorem mul_mono_pos {t t' e : Nat} (mode : Int) (ht : nanB t = false) (ht' : nanB t' = false) (hen : nanB e = false) (he : 0 ≤ frank e) (h : frank t ≤ frank t') : rk (fmulF t e mode) ≤ rk (fmulF t' e mode) := by
  cases ze : zeroB e with
  | true => rw [mul_by_zero mode ht ze, mul_by_zero mode ht' ze]; exact Int.le_refl _
  | false =>
    have hne : fneg e = false := by
      cases hh : fneg e with
      | false => rfl
      | true => have := (sign_rank ze).1 hh; omega
    rcases fin_or hen with fe | ie
    · rcases fin_or ht with ft | it
      · rcases fin_or ht' with ft' | it'
        · obtain ⟨a1, a2⟩ := mul_fin_rank mode ft fe
          obtain ⟨b1, b2⟩ := mul_fin_rank mode ft' fe
          rw [rk_num a1, rk_num b1, a2, b2]
          exact rz_le (Int.mul_le_mul_of_nonneg_right ((fzs_rank ht ht').1 h) ((fzs_sign hen).1.1 he)) mode
        · rw [fmulF_comm t' e, mul_by_inf mode hen ze it', hne]
          rcases inf_ends it' with ⟨h1, h2⟩ | ⟨h1, h2⟩
          · have := (fin_rank_lt ft).1; omega
          · rw [h1]; exact (rk_le _).2
      · rw [fmulF_comm t e, mul_by_inf mode hen ze it, hne]
        rcases inf_ends it with ⟨h1, h2⟩ | ⟨h1, h2⟩
        · rw [h1]; exact (rk_le _).1
        · have h3 := (rank_le ht').2
          rcases fin_or ht' with ft' | it'
          · have := (fin_rank_lt ft').2; omega
          · rw [fmulF_comm t' e, mul_by_inf mode hen ze it', hne]
            rcases inf_ends it' with ⟨h4, h5⟩ | ⟨h4, h5⟩
            · omega
            · rw [h1, h4]; exact Int.le_refl _
    · cases zt : zeroB t with
      | true =>
        have r0 := zero_rank.2 zt
        rw [fmulF_comm t e, mul_by_zero mode hen zt]
        cases zt' : zeroB t' with
        | true => rw [fmulF_comm t' e, mul_by_zero mode hen zt']; exact Int.le_refl _
        | false =>
          have hn' : fneg t' = false := by
            cases hh : fneg t' with
            | false => rfl
            | true => have := (sign_rank zt').1 hh; omega
          rw [mul_by_inf mode ht' zt' ie, hne, hn']
          simp
      | false =>
        rw [mul_by_inf mode ht zt ie, hne]
        cases hh : fneg t with
        | true => simp; exact (rk_le _).1
        | false =>
          have hp := (sign_rank zt).2 hh
          have zt' : zeroB t' = false := by
            cases h2 : zeroB t' with
            | false => rfl
            | true => have := zero_rank.2 h2; omega
          have hn' : fneg t' = false := by
            cases h2 : fneg t' with
            | false => rfl
            | true => have := (sign_rank zt').1 h2; omega
          rw [mul_by_inf mode ht' zt' ie, hne, hn']
          exact Int.le_refl _
theorem fmul_lt2 (a b : Nat) (mode : Int) : fmulF a b mode < 18446744073709551616 := by
  unfold fmulF
  exact fma_lt mode (fin_sgz _).2.1
/-- products by a number that is not positive turn the order about -/
theorem mul_anti {t t' e : Nat} (mode : Int) (le : e < 18446744073709551616) (ht : nanB t = false) (ht' : nanB t' = false) (hen : nanB e = false) (he : frank e ≤ 0) (h : frank t ≤ frank t') : rk (fmulF t' e mode) ≤ rk (fmulF t e mode) := by
  obtain ⟨n1, n2, -⟩ := neg_rank le hen
  have h1 := mul_mono_pos (opp mode) ht ht' n1 (by rw [n2]; omega) h
  rw [fmulF_comm t, fmulF_comm t', fmul_mirror le, fmul_mirror le, rk_neg (fmul_lt2 _ _ _), rk_neg (fmul_lt2 _ _ _), fmulF_comm e t, fmulF_comm e t'] at h1
  omega
/-- a product lies between those at the ends -/
theorem mul_between {c t d u : Nat} (mode : Int) (lu : u < 18446744073709551616) (hc : nanB c = false) (ht : nanB t = false) (hd : nanB d = false) (hu : nanB u = false) (h1 : frank c ≤ frank t) (h2 : frank t ≤ frank d) :
    min (rk (fmulF c u mode)) (rk (fmulF d u mode)) ≤ rk (fmulF t u mode) ∧ rk (fmulF t u mode) ≤ max (rk (fmulF c u mode)) (rk (fmulF d u mode)) := by
  rcases Int.le_total 0 (frank u) with h | h
  · have a := mul_mono_pos mode hc ht hu h h1
    have b := mul_mono_pos mode ht hd hu h h2
    omega
  · have a := mul_anti mode lu hc ht hu h h1
    have b := mul_anti mode lu ht hd hu h h2
    omega

/-- four results: the least place in the order, and the greatest -/
def min4 (a b c d : Int) : Int := min (min a b) (min c d)
def max4 (a b c d : Int) : Int := max (max a b) (max c d)
theorem least4_rank (x1 x2 x3 x4 : Nat) : nanB (leastF ([x1, x2, x3, x4].map nz)) = false ∧ frank (leastF ([x1, x2, x3, x4].map nz)) = min4 (rk x1) (rk x2) (rk x3) (rk x4) := by
  have hi : frank 9218868437227405312 = 9218868437227405312 := by decide +kernel
  obtain ⟨a1, a2⟩ := less_step (m := 9218868437227405312) (f := nz x1) (by decide) (nz_not x1)
  obtain ⟨b1, b2⟩ := less_step a1 (nz_not x2)
  obtain ⟨c1, c2⟩ := less_step b1 (nz_not x3)
  obtain ⟨d1, d2⟩ := less_step c1 (nz_not x4)
  refine ⟨d1, ?_⟩
  have h : frank (leastF ([x1, x2, x3, x4].map nz)) = min (min (min (min 9218868437227405312 (rk x1)) (rk x2)) (rk x3)) (rk x4) := by
    rw [a2, hi] at b2
    rw [b2] at c2
    rw [c2] at d2
    exact d2
  rw [h]
  have := rk_le x1
  unfold min4
  omega
theorem great4_rank (x1 x2 x3 x4 : Nat) : nanB (greatF ([x1, x2, x3, x4].map nz)) = false ∧ frank (greatF ([x1, x2, x3, x4].map nz)) = max4 (rk x1) (rk x2) (rk x3) (rk x4) := by
  have hi : frank 18442240474082181120 = -9218868437227405312 := by decide +kernel
  obtain ⟨a1, a2⟩ := more_step (m := 18442240474082181120) (f := nz x1) (by decide) (nz_not x1)
  obtain ⟨b1, b2⟩ := more_step a1 (nz_not x2)
  obtain ⟨c1, c2⟩ := more_step b1 (nz_not x3)
  obtain ⟨d1, d2⟩ := more_step c1 (nz_not x4)
  refine ⟨d1, ?_⟩
  have h : frank (greatF ([x1, x2, x3, x4].map nz)) = max (max (max (max (-9218868437227405312) (rk x1)) (rk x2)) (rk x3)) (rk x4) := by
    rw [a2, hi] at b2
    rw [b2] at c2
    rw [c2] at d2
    exact d2
  rw [h]
  have := rk_le x1
  unfold max4
  omega

/-- an operation whose results lie between those at the ends; L, R: what may stand on the left and on the right -/
structure Mono (f : Nat → Nat → Int → Nat) (L R : Nat → Prop) : Prop where
  left : ∀ c t d u mode, L c → L t → L d → R u → frank c ≤ frank t → frank t ≤ frank d → min (rk (f c u mode)) (rk (f d u mode)) ≤ rk (f t u mode) ∧ rk (f t u mode) ≤ max (rk (f c u mode)) (rk (f d u mode))
  right : ∀ u c t d mode, L u → R c → R t → R d → frank c ≤ frank t → frank t ≤ frank d → min (rk (f u c mode)) (rk (f u d mode)) ≤ rk (f u t mode) ∧ rk (f u t mode) ≤ max (rk (f u c mode)) (rk (f u d mode))
  dirs : ∀ t u, L t → R u → finB t = true → finB u = true → rk (f t u 1) < 9218868437227405312 ∧ rk (f t u 1) ≤ rk (f t u 2) ∧ -9218868437227405312 < rk (f t u 2)
def lo4 (f : Nat → Nat → Int → Nat) (a b c d : Nat) : Int := min4 (rk (f a c 1)) (rk (f a d 1)) (rk (f b c 1)) (rk (f b d 1))
def hi4 (f : Nat → Nat → Int → Nat) (a b c d : Nat) : Int := max4 (rk (f a c 2)) (rk (f a d 2)) (rk (f b c 2)) (rk (f b d 2))
section
variable {f : Nat → Nat → Int → Nat} {L R : Nat → Prop}
theorem Mono.narrowL (h : Mono f L R) {a b c d u v : Nat} (ha : L a) (hb : L b) (hc : L c) (hd : L d) (hu : R u) (hv : R v) (h1 : frank c ≤ frank a) (h2 : frank a ≤ frank b) (h3 : frank b ≤ frank d) : lo4 f c d u v ≤ lo4 f a b u v ∧ hi4 f a b u v ≤ hi4 f c d u v := by
  obtain ⟨p1, p2⟩ := h.left c a d u 1 hc ha hd hu h1 (by omega)
  obtain ⟨q1, q2⟩ := h.left c a d v 1 hc ha hd hv h1 (by omega)
  obtain ⟨r1, r2⟩ := h.left c b d u 1 hc hb hd hu (by omega) h3
  obtain ⟨s1, s2⟩ := h.left c b d v 1 hc hb hd hv (by omega) h3
  obtain ⟨P1, P2⟩ := h.left c a d u 2 hc ha hd hu h1 (by omega)
  obtain ⟨Q1, Q2⟩ := h.left c a d v 2 hc ha hd hv h1 (by omega)
  obtain ⟨R1, R2⟩ := h.left c b d u 2 hc hb hd hu (by omega) h3
  obtain ⟨S1, S2⟩ := h.left c b d v 2 hc hb hd hv (by omega) h3
  unfold lo4 hi4 min4 max4
  omega
theorem Mono.narrowR (h : Mono f L R) {a b c d u v : Nat} (ha : R a) (hb : R b) (hc : R c) (hd : R d) (hu : L u) (hv : L v) (h1 : frank c ≤ frank a) (h2 : frank a ≤ frank b) (h3 : frank b ≤ frank d) : lo4 f u v c d ≤ lo4 f u v a b ∧ hi4 f u v a b ≤ hi4 f u v c d := by
  obtain ⟨p1, p2⟩ := h.right u c a d 1 hu hc ha hd h1 (by omega)
  obtain ⟨q1, q2⟩ := h.right v c a d 1 hv hc ha hd h1 (by omega)
  obtain ⟨r1, r2⟩ := h.right u c b d 1 hu hc hb hd (by omega) h3
  obtain ⟨s1, s2⟩ := h.right v c b d 1 hv hc hb hd (by omega) h3
  obtain ⟨P1, P2⟩ := h.right u c a d 2 hu hc ha hd h1 (by omega)
  obtain ⟨Q1, Q2⟩ := h.right v c a d 2 hv hc ha hd h1 (by omega)
  obtain ⟨R1, R2⟩ := h.right u c b d 2 hu hc hb hd (by omega) h3
  obtain ⟨S1, S2⟩ := h.right v c b d 2 hv hc hb hd (by omega) h3
  unfold lo4 hi4 min4 max4
  omega
theorem Mono.good (h : Mono f L R) {a b c d t u : Nat} (ha : L a) (hb : L b) (hc : R c) (hd : R d) (ht : L t) (hu : R u) (ft : finB t = true) (fu : finB u = true) (h1 : frank a ≤ frank t) (h2 : frank t ≤ frank b) (h3 : frank c ≤ frank u) (h4 : frank u ≤ frank d) :
    lo4 f a b c d < 9218868437227405312 ∧ lo4 f a b c d ≤ hi4 f a b c d ∧ -9218868437227405312 < hi4 f a b c d := by
  obtain ⟨p1, p2⟩ := h.left a t b u 1 ha ht hb hu h1 h2
  obtain ⟨q1, q2⟩ := h.left a t b u 2 ha ht hb hu h1 h2
  obtain ⟨r1, r2⟩ := h.right a c u d 1 ha hc hu hd h3 h4
  obtain ⟨s1, s2⟩ := h.right b c u d 1 hb hc hu hd h3 h4
  obtain ⟨R1, R2⟩ := h.right a c u d 2 ha hc hu hd h3 h4
  obtain ⟨S1, S2⟩ := h.right b c u d 2 hb hc hu hd h3 h4
  obtain ⟨d1, d2, d3⟩ := h.dirs t u ht hu ft fu
  unfold lo4 hi4 min4 max4
  omega
end
def Nm (x : Nat) : Prop := x < 18446744073709551616 ∧ nanB x = false
theorem mul_monoF : Mono fmulF Nm Nm where
  left := fun c t d u mode hc ht hd hu h1 h2 => mul_between mode hu.1 hc.2 ht.2 hd.2 hu.2 h1 h2
  right := fun u c t d mode hu hc ht hd h1 h2 => by
    rw [fmulF_comm u c, fmulF_comm u d, fmulF_comm u t]
    exact mul_between mode hu.1 hc.2 ht.2 hd.2 hu.2 h1 h2
  dirs := fun t u ht hu ft fu => by
    obtain ⟨a1, a2⟩ := mul_fin_rank 1 ft fu
    obtain ⟨b1, b2⟩ := mul_fin_rank 2 ft fu
    rw [rk_num a1, rk_num b1, a2, b2]
    exact rz_dirs _ _
/-- a valid interval has a finite element -/
theorem valid_point2 {a b : Nat} (ha : a < 18446744073709551616) (hb : b < 18446744073709551616) (h : validF a b = true) : ∃ t, Nm t ∧ finB t = true ∧ frank a ≤ frank t ∧ frank t ≤ frank b := by
  obtain ⟨n1, n2, h1, h2, h3⟩ := (valid_iff ha hb).1 h
  rcases fin_or n1 with f1 | i1
  · exact ⟨a, ⟨ha, n1⟩, f1, Int.le_refl _, h1⟩
  · rcases fin_or n2 with f2 | i2
    · exact ⟨b, ⟨hb, n2⟩, f2, h1, Int.le_refl _⟩
    · have hz : frank 0 = 0 := frank_zero (by decide)
      refine ⟨0, ⟨by omega, by decide⟩, by decide, ?_, ?_⟩
      · rw [hz]
        rcases inf_ends i1 with ⟨_, h⟩ | ⟨_, h⟩ <;> omega
      · rw [hz]
        rcases inf_ends i2 with ⟨_, h⟩ | ⟨_, h⟩ <;> omega
end Go.Proofs.YtekocoklfnojmaaGreatDoor
