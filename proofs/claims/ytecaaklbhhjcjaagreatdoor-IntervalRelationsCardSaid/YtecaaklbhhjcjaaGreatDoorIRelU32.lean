import Derived.Test.YtecaaklbhhjcjaaGreatDoorIRelU31
import Derived.Test.YtecaaklbhhjcjaaGreatDoorIRelU13
import Derived.Test.YtecaaklbhhjcjaaGreatDoorIRelU15
import Derived.Test.YtecaaklbhhjcjaaGreatDoorIRelU17
import Derived.Test.YtecaaklbhhjcjaaGreatDoorIRelU18
import Derived.Test.YtecaaklbhhjcjaaGreatDoorIRelU30
import Derived.Test.YtecaaklbhhjcjaaGreatDoorIRelU29
import Derived.Test.YtecaaklbhhjcjaaGreatDoorIRelU12
import Derived.Deep.CutBlock
namespace Go.Proofs.YtecaaklbhhjcjaaGreatDoor
open Go.RowKit

/-- a dyad rounded -/
def frdF (d : Dy) (mode : Int) : Nat :=
  match d with
  | none => 9221120237041090560
  | some (m, e) => rz m e mode

theorem frdF_lt (d : Dy) (mode : Int) : frdF d mode < 18446744073709551616 := by
  cases d with
  | none => show 9221120237041090560 < 18446744073709551616; omega
  | some p => exact (rz_facts p.1 p.2 mode).2

/-- the first bits and a tail are rounded like the whole -/
theorem fla_cut (neg : Bool) {X j : Nat} {e : Int} (mode : Int) {N : Nat} {T : Bool} (hN : N = X / 2 ^ j) (hT : T = decide (X % 2 ^ j ≠ 0)) (h53 : T = true → 2 ^ 53 ≤ N) (h0 : N ≠ 0) : fla neg N (e + j) T mode = fla neg X e false mode := by
  cases T with
  | true =>
    have := fla_tail neg (N := X) e false mode j (by rw [← hN]; exact h53 rfl)
    rw [Bool.false_or, ← hT, ← hN] at this
    exact this
  | false =>
    have hr : X % 2 ^ j = 0 := by simpa using hT
    have hm := Nat.div_add_mod X (2 ^ j)
    rw [hr, ← hN, Nat.add_zero, Nat.mul_comm] at hm
    exact fla_eq neg (a := j) (b := 0) mode h0 (by rw [hm, Nat.pow_zero, Nat.mul_one]) (by omega)

set_option maxRecDepth 100000 in
theorem signOfDyad_any (bb nb : Bool) (ao : Option Addr) (n ca : Nat) (f : Int) (w : World) :
    Calls Tryz.prog 171 #[.agg #[.bool bb, .bool nb, .slice ao n ca, .int .i64 f]] w fun e w' => e = .returned (.int .u64 ((sgz nb : Nat) : Int)) ∧ Ext w w' := by
  cases nb
  all_goals
    go_enter Tryz.func171, Tryz.ntmps171
    go_upto_region 1 with fail
    first
      | obtain ⟨W, hW, hB, hx, hz⟩ := dbox_new w bb false ao n ca f; rw [← hW]; clear hW
      | obtain ⟨W, hW, hB, hx, hz⟩ := dbox_new w bb true ao n ca f; rw [← hW]; clear hW
    have HB := Lib.hid (show Ext w W from hB)
    clear hB
    generalize w.heap.size = B at *
    have c1 := hx.c1
    go_wp2
    go_ret
    exact ⟨rfl, HB.out⟩

theorem Dg.parts {w : World} {v : Value} {d : Dy} (h : Dg w v d) : ∃ bb nb ao n ca f, v = .agg #[.bool bb, .bool nb, .slice ao n ca, .int .i64 f] := by
  obtain ⟨bb, nb, ao, n, ca, x, f, h1, h2⟩ := h
  exact ⟨_, _, _, _, _, _, h1⟩

/-- round, of what leading gives -/
theorem fround_rz {m e : Int} {H L : Nat} {E : Int} {T : Bool} {j : Nat} {nn : Bool} (hH : H < 18446744073709551616) (hL : L < 18446744073709551616) (hV : H * 18446744073709551616 + L = m.natAbs / 2 ^ j) (h0 : H * 18446744073709551616 + L ≠ 0) (hE : E = e + j) (hTT : T = decide (m.natAbs % 2 ^ j ≠ 0)) (h53 : T = true → 2 ^ 53 ≤ H * 18446744073709551616 + L) (hj : j ≤ 3200000)
    (he0 : -65536 ≤ e) (he1 : e ≤ 65536) (hnn : nn = decide (m < 0)) (hm : m ≠ 0) (mode : Int) (w : World) :
    Calls Tryz.prog 161 #[.agg #[.int .u64 (H : Int), .int .u64 (L : Int), .int .i64 E, .bool T], .int .u64 ((sgz nn : Nat) : Int), .int .i64 mode] w fun r w' => r = .returned (.int .u64 ((rz m e mode : Nat) : Int)) ∧ Ext w w' := by
  refine (fround_any H L E T nn mode hH hL h0 h53 (by omega) (by omega) w).mono fun r w' ⟨hr, hw⟩ => ⟨?_, hw⟩
  rw [hr, hE, fla_cut nn mode hV hTT h53 h0]
  unfold rz
  rw [if_neg hm, rnd_sgz, hnn]

set_option maxRecDepth 100000 in
set_option maxHeartbeats 4000000 in
theorem frd_none (v : Value) (mode : Int) (w : World) (hv : Dg w v none) (hT : Table w) :
    Calls Tryz.prog 100 #[v, .int .i64 mode] w fun r w' => r = .returned (.int .u64 9221120237041090560) ∧ Ext w w' := by
  obtain ⟨vb, vn, vo, vk, vc, ve, rfl⟩ := hv.parts
  have HT := Lib.hid hT
  clear hT
  go_enter Tryz.func100, Tryz.ntmps100
  go_upto_region 1 with fail
  obtain ⟨W, hW, hB, hx, hz⟩ := dbox_new w vb vn vo vk vc ve
  rw [← hW]
  clear hW
  have hd := hv.ext (show Ext w W from hB)
  have hTW := HT.out.below hB
  generalize hBe : w.heap.size = B at *
  have HBe := Lib.hid hBe
  clear hBe hv
  have c0 := hx.c0
  have c1 := hx.c1
  have c2 := hx.c2
  have c3 := hx.c3
  have HD := Lib.hid hd
  have HTW := Lib.hid hTW
  clear hd hTW
  go_wp2_with fail
  refine (dnorm_any _ _ _ HD.out HTW.out).mono ?_
  rintro r w1 ⟨v1, rfl, hd, hE⟩
  obtain ⟨nb, nn, no, nk, nc, ne, rfl⟩ := hd.parts
  obtain ⟨h1, h2, h3⟩ := hd.get
  obtain rfl : nb = true := h1
  have x1 := hx.below hE
  have b1 : Below B w w1 := hB.trans (Below.mono hE (by omega))
  clear c0 c1 c2 c3 hx hB hE
  have g0 := x1.f 0
  have g1 := x1.f 1
  have g2 := x1.f 2
  have g3 := x1.f 3
  have c0 := x1.c0
  have c1 := x1.c1
  have c2 := x1.c2
  have c3 := x1.c3
  clear hd h2 h3
  go_upto_region 2 with fail
  have ho := only_set4 w1 B (.bool true) (.bool nn) (.slice no nk nc) (.int .i64 ne)
  have x2 := x1.stored true nn no nk nc ne
  have b2 := b1.trans (ho.below (B := B) (Nat.le_refl _))
  generalize (((w1.setCell ⟨B, 0, none⟩ (.bool true)).setCell ⟨B, 1, none⟩ (.bool nn)).setCell ⟨B, 2, none⟩ (.slice no nk nc)).setCell ⟨B, 3, none⟩ (.int .i64 ne) = W2 at *
  clear c0 c1 c2 c3 g0 g1 g2 g3 x1 b1 ho
  have c0 := x2.c0
  have B2 := Lib.hid b2
  clear b2
  go_wp2
  go_ret
  refine ⟨rfl, ?_⟩
  show Below _ _ _
  rw [HBe.out]
  exact B2.out

set_option maxRecDepth 100000 in
set_option maxHeartbeats 4000000 in
theorem frd_some (v : Value) (m e mode : Int) (w : World) (hv : Dg w v (some (m, e))) (hT : Table w) :
    Calls Tryz.prog 100 #[v, .int .i64 mode] w fun r w' => r = .returned (.int .u64 ((rz m e mode : Nat) : Int)) ∧ Ext w w' := by
  obtain ⟨vb, vn, vo, vk, vc, ve, rfl⟩ := hv.parts
  have HT := Lib.hid hT
  clear hT
  go_enter Tryz.func100, Tryz.ntmps100
  go_upto_region 1 with fail
  obtain ⟨W, hW, hB, hx, hz⟩ := dbox_new w vb vn vo vk vc ve
  rw [← hW]
  clear hW
  have hd := hv.ext (show Ext w W from hB)
  have hTW := HT.out.below hB
  generalize hBe : w.heap.size = B at *
  have HBe := Lib.hid hBe
  clear hBe hv
  have c0 := hx.c0
  have c1 := hx.c1
  have c2 := hx.c2
  have c3 := hx.c3
  have HD := Lib.hid hd
  have HTW := Lib.hid hTW
  clear hd hTW
  go_wp2_with fail
  refine (dnorm_any _ _ _ HD.out HTW.out).mono ?_
  rintro r w1 ⟨v1, rfl, hd, hE⟩
  obtain ⟨nb, nn, no, nk, nc, ne, rfl⟩ := hd.parts
  obtain ⟨h1, h2, h3⟩ := hd.get
  obtain rfl : nb = false := h1
  have x1 := hx.below hE
  have b1 : Below B w w1 := hB.trans (Below.mono hE (by omega))
  clear c0 c1 c2 c3 hx hB hE
  have g0 := x1.f 0
  have g1 := x1.f 1
  have g2 := x1.f 2
  have g3 := x1.f 3
  have c0 := x1.c0
  have c1 := x1.c1
  have c2 := x1.c2
  have c3 := x1.c3
  obtain rfl : ne = e := h2
  have hbn : Bn w1 nn no nk nc m := h3
  have hnd : Nd (some (m, ne)) := hd.1
  have HNN := Lib.hid hbn.neg
  clear hd h3
  go_upto_region 2 with fail
  have hsl := hbn.sl
  have ho := only_set4 w1 B (.bool false) (.bool nn) (.slice no nk nc) (.int .i64 ne)
  have x2 := x1.stored false nn no nk nc ne
  have s2 := hsl.only_dbox x1 ho
  have n2 := hbn.only_dbox x1 ho
  have b2 := b1.trans (ho.below (B := B) (Nat.le_refl _))
  generalize (((w1.setCell ⟨B, 0, none⟩ (.bool false)).setCell ⟨B, 1, none⟩ (.bool nn)).setCell ⟨B, 2, none⟩ (.slice no nk nc)).setCell ⟨B, 3, none⟩ (.int .i64 ne) = W2 at *
  clear c0 c1 c2 c3 g0 g1 g2 g3 x1 b1 ho hsl hbn
  have hnk : nk ≤ 4096 := by
    rw [← s2.len]
    have h4 := (nd_blen hnd).1
    exact limbs_of_blen (a := m.natAbs) (k := 4096) (show blen m.natAbs ≤ 131072 from h4)
  have hne := (nd_blen hnd).2
  have hne0 : -65536 ≤ ne := hne.1
  have hne1 : ne ≤ 65536 := hne.2
  clear hne
  have CS := Lib.hid (fun wx (h : Ext W2 wx) => sign_any nn no nk nc m wx ((n2.below h).bg (by omega)))
  have CG := Lib.hid (signOfDyad_any false nn no nk nc ne)
  have hcells : ∀ wx, Ext W2 wx → (wx.cell? ⟨B, 0, none⟩ = some (.bool false) ∧ wx.cell? ⟨B, 1, none⟩ = some (.bool nn) ∧ wx.cell? ⟨B, 2, none⟩ = some (.slice no nk nc) ∧ wx.cell? ⟨B, 3, none⟩ = some (.int .i64 ne)) := fun wx h => ⟨(x2.ext h).c0, (x2.ext h).c1, (x2.ext h).c2, (x2.ext h).c3⟩
  have HC := Lib.hid hcells
  have B2 := Lib.hid (And.intro b2 x2.lt)
  have HND := Lib.hid hnd
  have S2 := Lib.hid s2
  clear hcells s2 n2 x2 b2 hnd
  obtain ⟨c0, c1, c2, c3⟩ := HC.out W2 (Ext.refl _)
  by_cases hm : m = 0
  · have v1 : sgn3 m 0 = 0 := by rw [hm]; decide
    go_wp2_with fail
    refine (CS.out _ (Ext.refl _)).mono ?_
    rintro r w3 ⟨rfl, hE⟩
    have E3 : Ext W2 w3 := hE
    clear c0 c1 c2 c3 hE
    go_wp2
    go_ret
    refine ⟨by unfold rz; rw [if_pos hm]; rfl, ?_⟩
    show Below _ _ _
    rw [HBe.out]
    exact B2.out.1.trans (Below.mono E3 (by have := B2.out.2; omega))
  · have hodd : m.natAbs % 2 = 1 := by
      rcases HND.out with ⟨h, _⟩ | ⟨h, _⟩
      · exact absurd h hm
      · exact h
    have v1 : (sgn3 m 0 == 0) = false := by rw [beq_eq_false_iff_ne]; unfold sgn3; split <;> (try split) <;> omega
    have CL := Lib.hid (fun wx (h : Ext W2 wx) => flead_any no nk nc m.natAbs ne wx (S2.out.below h) hodd (by omega) (by omega) (by omega))
    have CR := Lib.hid (fun (H L : Nat) (E : Int) (T : Bool) (j : Nat) (hH : H < 18446744073709551616) (hL : L < 18446744073709551616) (hV : H * 18446744073709551616 + L = m.natAbs / 2 ^ j) (h0 : H * 18446744073709551616 + L ≠ 0) (hE : E = ne + j) (hTT : T = decide (m.natAbs % 2 ^ j ≠ 0)) (h53 : T = true → 2 ^ 53 ≤ H * 18446744073709551616 + L) (hj : j ≤ 3200000) (wx : World) =>
      fround_rz (m := m) (e := ne) hH hL hV h0 hE hTT h53 hj (by omega) (by omega) HNN.out hm mode wx)
    clear hodd
    go_wp2_with fail
    refine (CS.out _ (Ext.refl _)).mono ?_
    rintro r w3 ⟨rfl, hE⟩
    have E3 : Ext W2 w3 := hE
    clear c0 c1 c2 c3 hE
    obtain ⟨c0, c1, c2, c3⟩ := HC.out w3 E3
    go_upto_region 6 with fail
    clear v1
    have e0 : Ext W2 w3.drew := Ext.trans E3 ((Below.refl _ _).drew)
    go_region_held3 (fun wx => wx.cell? ⟨B, 0, none⟩ = some (.bool false) ∧ wx.cell? ⟨B, 1, none⟩ = some (.bool nn) ∧ wx.cell? ⟨B, 2, none⟩ = some (.slice no nk nc) ∧ wx.cell? ⟨B, 3, none⟩ = some (.int .i64 ne))
      (first | exact HC.out _ (by assumption))
      (first
        | (go_at_call 170; refine (CL.out _ (by assumption)).mono ?_; rintro e wn ⟨H, L, E, T, j, rfl, hH, hL, hV, h0, hE, hTT, h53, hj, hE1⟩; have CR := Lib.hid (CR.out H L E T j hH hL hV h0 hE hTT h53 hj); clear hV h0 hE hTT h53 hj; have e1 : Ext W2 wn := Ext.trans (by assumption) hE1)
        | (go_at_call 171; refine (CG.out _).mono ?_; rintro e wn ⟨rfl, hE1⟩; have e1 : Ext W2 wn := Ext.trans (by assumption) hE1)
        | (go_at_call 161; refine (CR.out _).mono ?_; rintro e wn ⟨rfl, hE1⟩; have e1 : Ext W2 wn := Ext.trans (by assumption) hE1))
    all_goals
      have EF : Ext W2 wn := by assumption
      go_wp2
      go_ret
      refine ⟨rfl, ?_⟩
      show Below _ _ _
      rw [HBe.out]
      exact B2.out.1.trans (Below.mono EF (by have := B2.out.2; omega))

theorem frd_any (v : Value) (d : Dy) (mode : Int) (w : World) (hv : Dg w v d) (hT : Table w) :
    Calls Tryz.prog 100 #[v, .int .i64 mode] w fun r w' => r = .returned (.int .u64 ((frdF d mode : Nat) : Int)) ∧ Ext w w' := by
  cases d with
  | none => exact frd_none v mode w hv hT
  | some p => exact frd_some v p.1 p.2 mode w hv hT
end Go.Proofs.YtecaaklbhhjcjaaGreatDoor

namespace Go.Proofs.YtecaaklbhhjcjaaGreatDoor
open Go.RowKit

/-- contracts over letters -/
theorem negF_at {a r : Nat} (ha : a < 18446744073709551616) (h : fnegF a = r) (w : World) : Calls Tryz.prog 80 #[.int .u64 (a : Int)] w fun e w' => e = .returned (.int .u64 (r : Int)) ∧ w = w' := by rw [← h]; exact negF_any a ha w
theorem addF_at {a b r : Nat} {mode : Int} (ha : a < 18446744073709551616) (hb : b < 18446744073709551616) (h : faddF a b mode = r) (w : World) : Calls Tryz.prog 82 #[.int .u64 (a : Int), .int .u64 (b : Int), .int .i64 mode] w fun e w' => e = .returned (.int .u64 (r : Int)) ∧ Ext w w' := by rw [← h]; exact fadd_any a b mode ha hb w
theorem frd_at {v : Value} {d : Dy} {mode : Int} {r : Nat} {w : World} (hv : Dg w v d) (hT : Table w) (h : frdF d mode = r) : Calls Tryz.prog 100 #[v, .int .i64 mode] w fun e w' => e = .returned (.int .u64 (r : Int)) ∧ Ext w w' := by rw [← h]; exact frd_any v d mode w hv hT
theorem fma_lt {a b c : Nat} (mode : Int) (hc : c < 18446744073709551616) : fmaF a b c mode < 18446744073709551616 := by
  have h1 := sgz_le (fneg a != fneg b)
  have h2 := (cancel_num mode).2.1
  have h3 := fun S m => (rsum_num S m mode).2
  unfold fmaF
  repeat' split
  all_goals first | omega | exact h3 _ _
theorem fadd_lt {a b : Nat} (mode : Int) (hb : b < 18446744073709551616) : faddF a b mode < 18446744073709551616 := fma_lt mode hb
end Go.Proofs.YtecaaklbhhjcjaaGreatDoor

namespace Go.Proofs.YtecaaklbhhjcjaaGreatDoor

/-- a result's place in the order, where a NaN counts as zero -/
def rk (x : Nat) : Int := frank (nz x)
/-- rounded downward no number becomes the upper infinity -/
theorem fla_dirs {N : Nat} (h0 : N ≠ 0) (e : Int) : fla false N e false 1 < 9218868437227405312 ∧ fla false N e false 1 ≤ fla false N e false 2 ∧ fla true N e false 2 < 9218868437227405312 ∧ fla true N e false 2 ≤ fla true N e false 1 := by
  obtain ⟨T, hT⟩ : ∃ T : Nat, T = max 1074 (-e).toNat := ⟨_, rfl⟩
  rcases fla_spec h0 e (T := T) (by omega) (by omega) with ⟨lo, h1, h2, _⟩ | ⟨lo, b, h⟩
  · rw [h2, h2, h2, h2]; exact ⟨h1, Nat.le_refl _, h1, Nat.le_refl _⟩
  · have hl := h.lt
    rw [h.val, h.val, h.val, h.val]
    unfold fraise
    simp
    omega
theorem rz_dirs (S e : Int) : frank (rz S e 1) < 9218868437227405312 ∧ frank (rz S e 1) ≤ frank (rz S e 2) ∧ -9218868437227405312 < frank (rz S e 2) := by
  obtain ⟨p1, p2, p3⟩ := rank_sign S e 1
  obtain ⟨q1, q2, q3⟩ := rank_sign S e 2
  rcases Int.lt_trichotomy S 0 with h | h | h
  · obtain ⟨a1, a2, a3, a4⟩ := fla_dirs (N := S.natAbs) (by omega) e
    rw [p1 h, q1 h]; omega
  · rw [p3 h, q3 h]; omega
  · obtain ⟨a1, a2, a3, a4⟩ := fla_dirs (N := S.natAbs) (by omega) e
    rw [p2 h, q2 h]; omega

theorem fzs_rank {a b : Nat} (ha : nanB a = false) (hb : nanB b = false) : (frank a ≤ frank b ↔ fzs a ≤ fzs b) := by
  obtain ⟨h1, h2⟩ := fs_rank (T := 1074) hb ha
  rw [fs_fzs, fs_fzs] at h1
  omega
theorem fzs_sign {a : Nat} (ha : nanB a = false) : (0 ≤ frank a ↔ 0 ≤ fzs a) ∧ (frank a ≤ 0 ↔ fzs a ≤ 0) := by
  have h1 := fzs_rank (show nanB 0 = false by decide) ha
  have h2 := fzs_rank ha (show nanB 0 = false by decide)
  rw [frank_zero (show fmag 0 = 0 by decide), zero_fzs (show zeroB 0 = true by decide)] at h1 h2
  exact ⟨h1, h2⟩
theorem vs_le {S S' e : Int} {T : Nat} (h : S ≤ S') : vs S e T ≤ vs S' e T := Int.mul_le_mul_of_nonneg_right h (Int.le_of_lt (Int.pow_pos (by omega)))
theorem rz_le {S S' e : Int} (h : S ≤ S') (mode : Int) : frank (rz S e mode) ≤ frank (rz S' e mode) := by
  obtain ⟨T, hT⟩ : ∃ T : Nat, T = max 1074 (-e).toNat := ⟨_, rfl⟩
  exact rz_mono (T := T) (by omega) (by omega) (by omega) (vs_le h) mode
theorem zero_rank {e : Nat} : frank e = 0 ↔ zeroB e = true := by
  unfold zeroB frank
  rw [decide_eq_true_iff]
  split <;> omega
theorem inf_ends {t : Nat} (h : infB t = true) : (fneg t = true ∧ frank t = -9218868437227405312) ∨ (fneg t = false ∧ frank t = 9218868437227405312) := by
  have h0 : fmag t = 9218868437227405312 := of_decide_eq_true h
  unfold frank
  cases fneg t
  · right; simp [h0]
  · left; simp [h0]
/-- an operation whose results lie between those at the ends; L, R: what may stand on the left and on the right -/
structure Mono (f : Nat → Nat → Int → Nat) (L R : Nat → Prop) : Prop where
  left : ∀ c t d u mode, L c → L t → L d → R u → frank c ≤ frank t → frank t ≤ frank d → min (rk (f c u mode)) (rk (f d u mode)) ≤ rk (f t u mode) ∧ rk (f t u mode) ≤ max (rk (f c u mode)) (rk (f d u mode))
  right : ∀ u c t d mode, L u → R c → R t → R d → frank c ≤ frank t → frank t ≤ frank d → min (rk (f u c mode)) (rk (f u d mode)) ≤ rk (f u t mode) ∧ rk (f u t mode) ≤ max (rk (f u c mode)) (rk (f u d mode))
  dirs : ∀ t u, L t → R u → finB t = true → finB u = true → rk (f t u 1) < 9218868437227405312 ∧ rk (f t u 1) ≤ rk (f t u 2) ∧ -9218868437227405312 < rk (f t u 2)
section
variable {f : Nat → Nat → Int → Nat} {L R : Nat → Prop}
end
end Go.Proofs.YtecaaklbhhjcjaaGreatDoor

namespace Go.Proofs.YtecaaklbhhjcjaaGreatDoor

/-- how many bits the integer of a slim dyad has at most -/
def SB : Nat := 640 + 4000
section
variable {a b c : Dy}
end

end Go.Proofs.YtecaaklbhhjcjaaGreatDoor

namespace Go.Proofs.YtecaaklbhhjcjaaGreatDoor

/-- what the four roundings of a dyad with more bits are -/
structure NearBig (d lo hi near inn : Dy) (c : Int) : Prop where
  lo_ne : lo ≠ none
  hi_ne : hi ≠ none
  near_ne : near ≠ none
  lohi : lo ≠ hi
  a : sgn3 (sc lo) (sc d) = -1
  b : sgn3 (sc d) (sc hi) = -1
  below : dsub d lo ≠ none
  above : dsub hi d ≠ none
  cmp : sgn3 (sc (dsub d lo)) (sc (dsub hi d)) = c
  choice : c = -1 ∧ near = lo ∨ c = 1 ∧ near = hi ∨ c = 0 ∧ (near = lo ∨ near = hi)
  inward : dm d < 0 ∧ inn = hi ∨ 0 ≤ dm d ∧ inn = lo

end Go.Proofs.YtecaaklbhhjcjaaGreatDoor

namespace Go.Proofs.YtecaaklbhhjcjaaGreatDoor

/-- what the statement compares -/
structure QuoIs (a b lo hi : Dy) (p x y : Int) : Prop where
  lon : lo ≠ none
  hin : hi ≠ none
  lob : (blen (dm lo).natAbs : Int) ≤ p
  hib : (blen (dm hi).natAbs : Int) ≤ p
  lom : dmul lo b ≠ none
  him : dmul hi b ≠ none
  cx : sgn3 (sc (dmul lo b)) (sc a) = x
  cy : sgn3 (sc a) (sc (dmul hi b)) = y
  xle : ¬ 0 < x
  yle : ¬ 0 < y
  same : lo = hi ↔ x = 0
  both : x = 0 ↔ y = 0

end Go.Proofs.YtecaaklbhhjcjaaGreatDoor

namespace Go.Proofs.YtecaaklbhhjcjaaGreatDoor

/-- what the statement compares -/
structure RootIs (a lo hi : Dy) (x y : Int) : Prop where
  lon : lo ≠ none
  hin : hi ≠ none
  lob : blen (dm lo).natAbs ≤ 80
  hib : blen (dm hi).natAbs ≤ 80
  lom : dmul lo lo ≠ none
  him : dmul hi hi ≠ none
  cx : sgn3 (sc (dmul lo lo)) (sc a) = x
  cy : sgn3 (sc a) (sc (dmul hi hi)) = y
  xle : ¬ 0 < x
  yle : ¬ 0 < y
  same : lo = hi ↔ x = 0

end Go.Proofs.YtecaaklbhhjcjaaGreatDoor

namespace Go.Proofs.YtecaaklbhhjcjaaGreatDoor
open Go.RowKit

theorem abs_lt64 (f : Nat) : fabsF f < 18446744073709551616 := by have := fmag_lt f; unfold fabsF; split <;> omega
def magF (a b : Nat) : Nat := greatF [fabsF a, fabsF b]
def migF (a b : Nat) : Nat := if containsF a b then 0 else leastF [fabsF a, fabsF b]
set_option maxRecDepth 100000 in
set_option maxHeartbeats 4000000 in
theorem imag_yes (a b : Nat) (ha : a < 18446744073709551616) (hb : b < 18446744073709551616) (h1 : validF a b = true) (w : World) :
    Calls Tryz.prog 49 #[.agg #[.int .u64 (a : Int), .int .u64 (b : Int)]] w fun e w' => e = .returned (.int .u64 ((magF a b : Nat) : Int)) ∧ Ext w w' := by
  have C1 := Lib.hid (ivalid_at a b ha hb rfl rfl true h1)
  have CA := absF_any a ha
  have CB := absF_any b hb
  have HL := two_lt (abs_lt64 a) (abs_lt64 b)
  unfold magF
  generalize fabsF a = p at *
  generalize fabsF b = q at *
  have CA := Lib.hid CA
  have CB := Lib.hid CB
  have HL := Lib.hid HL
  obtain ⟨R, hR⟩ : ∃ R : Int, ((greatF [p, q] : Nat) : Int) = R := ⟨_, rfl⟩
  rw [hR]
  have HR := Lib.hid hR
  clear h1 ha hb hR
  go_enter Tryz.func49, Tryz.ntmps49
  go_upto_region 1 with fail
  obtain ⟨W, hW, hB, hx, hsz⟩ := ibox_new w a b
  rw [← hW]
  clear hW
  generalize hBe : w.heap.size = B at *
  have HB := Lib.hid hB
  clear hB hBe
  have c0 := hx.c0
  have c1 := hx.c1
  go_wp2_with fail
  refine (C1.out _).mono ?_
  rintro r V ⟨rfl, hE⟩
  have hx := hx.below hE
  have HB := Lib.hid (Ext.trans HB.out hE)
  clear c0 c1 hE
  have c0 := hx.c0
  have c1 := hx.c1
  have HC := Lib.hid (show ∀ wx, Ext V wx → wx.cell? ⟨B, 0, none⟩ = some (.int .u64 (a : Int)) ∧ wx.cell? ⟨B, 1, none⟩ = some (.int .u64 (b : Int)) from fun wx h => ⟨(hx.below h).c0, (hx.below h).c1⟩)
  go_upto_region 3 with fail
  have st : Ext V V.drew := (Below.refl _ _).drew
  go_region_held3 (fun wx => wx.cell? ⟨B, 0, none⟩ = some (.int .u64 (a : Int)) ∧ wx.cell? ⟨B, 1, none⟩ = some (.int .u64 (b : Int)))
    (first | exact HC.out _ (by first | assumption | exact eA (by assumption) _ | exact eAd _ _ | exact eAAd _ _ _ | exact eA (eA (by assumption) _) _) | (refine ⟨?_, ?_⟩ <;> go_simp))
    (first
      | (go_at_call 113; (with_reducible refine (CA.out _).mono ?_); rintro r wa ⟨rfl, rfl⟩)
      | (go_at_call 113; (with_reducible refine (CB.out _).mono ?_); rintro r wb ⟨rfl, rfl⟩)
      | (go_at_call 95; refine (greatest_any _ [p, q] 2 rfl (by omega) HL.out _ (by first | exact fbAd _ _ _ | exact fbA _ _ _ | exact fbBd _ _ _ _ | exact fbB _ _ _ _)).mono ?_; rintro r wd ⟨rfl, hEd⟩; have std : Ext V wd := Ext.trans (by first | assumption | exact eA (by assumption) _ | exact eAd _ _ | exact eAAd _ _ _) hEd; obtain ⟨e0, e1⟩ := HC.out wd std))
  all_goals
    have HF := Lib.hid (Ext.trans HB.out std)
    go_wp2
    go_ret
    exact ⟨by first | (rw [← HR.out]; done) | (rw [← HR.out]; rfl), HF.out⟩

set_option maxRecDepth 100000 in
set_option maxHeartbeats 4000000 in
theorem imig_yes (a b : Nat) (ha : a < 18446744073709551616) (hb : b < 18446744073709551616) (h1 : validF a b = true) (w : World) :
    Calls Tryz.prog 51 #[.agg #[.int .u64 (a : Int), .int .u64 (b : Int)]] w fun e w' => e = .returned (.int .u64 ((migF a b : Nat) : Int)) ∧ Ext w w' := by
  have C1 := Lib.hid (ivalid_at a b ha hb rfl rfl true h1)
  have CZ := Lib.hid (contains_any a b ha hb)
  have CA := absF_any a ha
  have CB := absF_any b hb
  have HL := two_lt (abs_lt64 a) (abs_lt64 b)
  unfold migF
  generalize fabsF a = p at *
  generalize fabsF b = q at *
  have CA := Lib.hid CA
  have CB := Lib.hid CB
  have HL := Lib.hid HL
  obtain ⟨z, hz⟩ : ∃ z, containsF a b = z := ⟨_, rfl⟩
  rw [hz] at CZ ⊢
  obtain ⟨R, hR⟩ : ∃ R : Int, (((if z = true then 0 else leastF [p, q]) : Nat) : Int) = R := ⟨_, rfl⟩
  rw [hR]
  have HR := Lib.hid hR
  clear h1 ha hb hR hz
  go_enter Tryz.func51, Tryz.ntmps51
  go_upto_region 1 with fail
  obtain ⟨W, hW, hB, hx, hsz⟩ := ibox_new w a b
  rw [← hW]
  clear hW
  generalize hBe : w.heap.size = B at *
  have HB := Lib.hid hB
  clear hB hBe
  have c0 := hx.c0
  have c1 := hx.c1
  go_wp2_with fail
  refine (C1.out _).mono ?_
  rintro r V ⟨rfl, hE⟩
  have hx := hx.below hE
  have HB := Lib.hid (Ext.trans HB.out hE)
  clear c0 c1 hE
  have c0 := hx.c0
  have c1 := hx.c1
  cases z with
  | true =>
    obtain rfl : R = 0 := by rw [← HR.out]; rfl
    go_wp2_with fail
    refine (CZ.out _).mono ?_
    rintro r V2 ⟨rfl, hE⟩
    have HF := Lib.hid (Ext.trans HB.out hE)
    go_wp2
    go_ret
    exact ⟨rfl, HF.out⟩
  | false =>
    go_wp2_with fail
    refine (CZ.out _).mono ?_
    rintro r V2 ⟨rfl, hE⟩
    have hx := hx.below hE
    have HB := Lib.hid (Ext.trans HB.out hE)
    clear c0 c1 hE
    obtain ⟨V, hV⟩ : ∃ V, V = V2 := ⟨_, rfl⟩
    subst hV
    have c0 := hx.c0
    have c1 := hx.c1
    have HC := Lib.hid (show ∀ wx, Ext V wx → wx.cell? ⟨B, 0, none⟩ = some (.int .u64 (a : Int)) ∧ wx.cell? ⟨B, 1, none⟩ = some (.int .u64 (b : Int)) from fun wx h => ⟨(hx.below h).c0, (hx.below h).c1⟩)
    go_upto_region 5 with fail
    have st : Ext V V.drew := (Below.refl _ _).drew
    go_region_held3 (fun wx => wx.cell? ⟨B, 0, none⟩ = some (.int .u64 (a : Int)) ∧ wx.cell? ⟨B, 1, none⟩ = some (.int .u64 (b : Int)))
      (first | exact HC.out _ (by first | assumption | exact eA (by assumption) _ | exact eAd _ _ | exact eAAd _ _ _ | exact eA (eA (by assumption) _) _) | (refine ⟨?_, ?_⟩ <;> go_simp))
      (first
        | (go_at_call 113; (with_reducible refine (CA.out _).mono ?_); rintro r wa ⟨rfl, rfl⟩)
        | (go_at_call 113; (with_reducible refine (CB.out _).mono ?_); rintro r wb ⟨rfl, rfl⟩)
        | (go_at_call 98; refine (least_any _ [p, q] 2 rfl (by omega) HL.out _ (by first | exact fbAd _ _ _ | exact fbA _ _ _ | exact fbBd _ _ _ _ | exact fbB _ _ _ _)).mono ?_; rintro r wd ⟨rfl, hEd⟩; have std : Ext V wd := Ext.trans (by first | assumption | exact eA (by assumption) _ | exact eAd _ _ | exact eAAd _ _ _) hEd; obtain ⟨e0, e1⟩ := HC.out wd std))
    all_goals
      have HF := Lib.hid (Ext.trans HB.out std)
      go_wp2
      go_ret
      exact ⟨by first | (rw [← HR.out]; done) | (rw [← HR.out]; rfl), HF.out⟩

end Go.Proofs.YtecaaklbhhjcjaaGreatDoor
