import Derived.Test.YtapcecjbmcoliaaGreatDoorACauU31
import Derived.Test.YtapcecjbmcoliaaGreatDoorACauU17
import Derived.Test.YtapcecjbmcoliaaGreatDoorACauU20
import Derived.Test.YtapcecjbmcoliaaGreatDoorACauU22
import Derived.Test.YtapcecjbmcoliaaGreatDoorACauU24
import Derived.Test.YtapcecjbmcoliaaGreatDoorACauU25
import Derived.Test.YtapcecjbmcoliaaGreatDoorACauU26
import Derived.Test.YtapcecjbmcoliaaGreatDoorACauU27
import Derived.Test.YtapcecjbmcoliaaGreatDoorACauU30
import Derived.Test.YtapcecjbmcoliaaGreatDoorACauU5
namespace Go.Proofs.YtapcecjbmcoliaaGreatDoor
open Go.RowKit

/-- a dyad rounded -/
def frdF (d : Dy) (mode : Int) : Nat :=
  match d with
  | none => 9221120237041090560
  | some (m, e) => rz m e mode

theorem frdF_lt (d : Dy) (mode : Int) : frdF d mode < 18446744073709551616 := by
  cases d with
  | none => show 9221120237041090560 < 18446744073709551616; omega
  | some p => exact (rz_facts p.1 p.2 mode).2

/-- the first bits and a tail are rounded like the whole -/
theorem fla_cut (neg : Bool) {X j : Nat} {e : Int} (mode : Int) {N : Nat} {T : Bool} (hN : N = X / 2 ^ j) (hT : T = decide (X % 2 ^ j ≠ 0)) (h53 : T = true → 2 ^ 53 ≤ N) (h0 : N ≠ 0) : fla neg N (e + j) T mode = fla neg X e false mode := by
  cases T with
  | true =>
    have := fla_tail neg (N := X) e false mode j (by rw [← hN]; exact h53 rfl)
    rw [Bool.false_or, ← hT, ← hN] at this
    exact this
  | false =>
    have hr : X % 2 ^ j = 0 := by simpa using hT
    have hm := Nat.div_add_mod X (2 ^ j)
    rw [hr, ← hN, Nat.add_zero, Nat.mul_comm] at hm
    exact fla_eq neg (a := j) (b := 0) mode h0 (by rw [hm, Nat.pow_zero, Nat.mul_one]) (by omega)

set_option maxRecDepth 100000 in
theorem signOfDyad_any (bb nb : Bool) (ao : Option Addr) (n ca : Nat) (f : Int) (w : World) :
    Calls Tryz.prog 96 #[.agg #[.bool bb, .bool nb, .slice ao n ca, .int .i64 f]] w fun e w' => e = .returned (.int .u64 ((sgz nb : Nat) : Int)) ∧ Ext w w' := by
  cases nb
  all_goals
    go_enter Tryz.func96, Tryz.ntmps96
    go_upto_region 1 with fail
    first
      | obtain ⟨W, hW, hB, hx, hz⟩ := dbox_new w bb false ao n ca f; rw [← hW]; clear hW
      | obtain ⟨W, hW, hB, hx, hz⟩ := dbox_new w bb true ao n ca f; rw [← hW]; clear hW
    have HB := Lib.hid (show Ext w W from hB)
    clear hB
    generalize w.heap.size = B at *
    have c1 := hx.c1
    go_wp2
    go_ret
    exact ⟨rfl, HB.out⟩

theorem Dg.parts {w : World} {v : Value} {d : Dy} (h : Dg w v d) : ∃ bb nb ao n ca f, v = .agg #[.bool bb, .bool nb, .slice ao n ca, .int .i64 f] := by
  obtain ⟨bb, nb, ao, n, ca, x, f, h1, h2⟩ := h
  exact ⟨_, _, _, _, _, _, h1⟩

/-- round, of what leading gives -/
theorem fround_rz {m e : Int} {H L : Nat} {E : Int} {T : Bool} {j : Nat} {nn : Bool} (hH : H < 18446744073709551616) (hL : L < 18446744073709551616) (hV : H * 18446744073709551616 + L = m.natAbs / 2 ^ j) (h0 : H * 18446744073709551616 + L ≠ 0) (hE : E = e + j) (hTT : T = decide (m.natAbs % 2 ^ j ≠ 0)) (h53 : T = true → 2 ^ 53 ≤ H * 18446744073709551616 + L) (hj : j ≤ 3200000)
    (he0 : -65536 ≤ e) (he1 : e ≤ 65536) (hnn : nn = decide (m < 0)) (hm : m ≠ 0) (mode : Int) (w : World) :
    Calls Tryz.prog 95 #[.agg #[.int .u64 (H : Int), .int .u64 (L : Int), .int .i64 E, .bool T], .int .u64 ((sgz nn : Nat) : Int), .int .i64 mode] w fun r w' => r = .returned (.int .u64 ((rz m e mode : Nat) : Int)) ∧ Ext w w' := by
  refine (fround_any H L E T nn mode hH hL h0 h53 (by omega) (by omega) w).mono fun r w' ⟨hr, hw⟩ => ⟨?_, hw⟩
  rw [hr, hE, fla_cut nn mode hV hTT h53 h0]
  unfold rz
  rw [if_neg hm, rnd_sgz, hnn]

set_option maxRecDepth 100000 in
set_option maxHeartbeats 4000000 in
theorem frd_none (v : Value) (mode : Int) (w : World) (hv : Dg w v none) (hT : Table w) :
    Calls Tryz.prog 65 #[v, .int .i64 mode] w fun r w' => r = .returned (.int .u64 9221120237041090560) ∧ Ext w w' := by
  obtain ⟨vb, vn, vo, vk, vc, ve, rfl⟩ := hv.parts
  have HT := Lib.hid hT
  clear hT
  go_enter Tryz.func65, Tryz.ntmps65
  go_upto_region 1 with fail
  obtain ⟨W, hW, hB, hx, hz⟩ := dbox_new w vb vn vo vk vc ve
  rw [← hW]
  clear hW
  have hd := hv.ext (show Ext w W from hB)
  have hTW := HT.out.below hB
  generalize hBe : w.heap.size = B at *
  have HBe := Lib.hid hBe
  clear hBe hv
  have c0 := hx.c0
  have c1 := hx.c1
  have c2 := hx.c2
  have c3 := hx.c3
  have HD := Lib.hid hd
  have HTW := Lib.hid hTW
  clear hd hTW
  go_wp2_with fail
  refine (dnorm_any _ _ _ HD.out HTW.out).mono ?_
  rintro r w1 ⟨v1, rfl, hd, hE⟩
  obtain ⟨nb, nn, no, nk, nc, ne, rfl⟩ := hd.parts
  obtain ⟨h1, h2, h3⟩ := hd.get
  obtain rfl : nb = true := h1
  have x1 := hx.below hE
  have b1 : Below B w w1 := hB.trans (Below.mono hE (by omega))
  clear c0 c1 c2 c3 hx hB hE
  have g0 := x1.f 0
  have g1 := x1.f 1
  have g2 := x1.f 2
  have g3 := x1.f 3
  have c0 := x1.c0
  have c1 := x1.c1
  have c2 := x1.c2
  have c3 := x1.c3
  clear hd h2 h3
  go_upto_region 2 with fail
  have ho := only_set4 w1 B (.bool true) (.bool nn) (.slice no nk nc) (.int .i64 ne)
  have x2 := x1.stored true nn no nk nc ne
  have b2 := b1.trans (ho.below (B := B) (Nat.le_refl _))
  generalize (((w1.setCell ⟨B, 0, none⟩ (.bool true)).setCell ⟨B, 1, none⟩ (.bool nn)).setCell ⟨B, 2, none⟩ (.slice no nk nc)).setCell ⟨B, 3, none⟩ (.int .i64 ne) = W2 at *
  clear c0 c1 c2 c3 g0 g1 g2 g3 x1 b1 ho
  have c0 := x2.c0
  have B2 := Lib.hid b2
  clear b2
  go_wp2
  go_ret
  refine ⟨rfl, ?_⟩
  show Below _ _ _
  rw [HBe.out]
  exact B2.out

set_option maxRecDepth 100000 in
set_option maxHeartbeats 4000000 in
theorem frd_some (v : Value) (m e mode : Int) (w : World) (hv : Dg w v (some (m, e))) (hT : Table w) :
    Calls Tryz.prog 65 #[v, .int .i64 mode] w fun r w' => r = .returned (.int .u64 ((rz m e mode : Nat) : Int)) ∧ Ext w w' := by
  obtain ⟨vb, vn, vo, vk, vc, ve, rfl⟩ := hv.parts
  have HT := Lib.hid hT
  clear hT
  go_enter Tryz.func65, Tryz.ntmps65
  go_upto_region 1 with fail
  obtain ⟨W, hW, hB, hx, hz⟩ := dbox_new w vb vn vo vk vc ve
  rw [← hW]
  clear hW
  have hd := hv.ext (show Ext w W from hB)
  have hTW := HT.out.below hB
  generalize hBe : w.heap.size = B at *
  have HBe := Lib.hid hBe
  clear hBe hv
  have c0 := hx.c0
  have c1 := hx.c1
  have c2 := hx.c2
  have c3 := hx.c3
  have HD := Lib.hid hd
  have HTW := Lib.hid hTW
  clear hd hTW
  go_wp2_with fail
  refine (dnorm_any _ _ _ HD.out HTW.out).mono ?_
  rintro r w1 ⟨v1, rfl, hd, hE⟩
  obtain ⟨nb, nn, no, nk, nc, ne, rfl⟩ := hd.parts
  obtain ⟨h1, h2, h3⟩ := hd.get
  obtain rfl : nb = false := h1
  have x1 := hx.below hE
  have b1 : Below B w w1 := hB.trans (Below.mono hE (by omega))
  clear c0 c1 c2 c3 hx hB hE
  have g0 := x1.f 0
  have g1 := x1.f 1
  have g2 := x1.f 2
  have g3 := x1.f 3
  have c0 := x1.c0
  have c1 := x1.c1
  have c2 := x1.c2
  have c3 := x1.c3
  obtain rfl : ne = e := h2
  have hbn : Bn w1 nn no nk nc m := h3
  have hnd : Nd (some (m, ne)) := hd.1
  have HNN := Lib.hid hbn.neg
  clear hd h3
  go_upto_region 2 with fail
  have hsl := hbn.sl
  have ho := only_set4 w1 B (.bool false) (.bool nn) (.slice no nk nc) (.int .i64 ne)
  have x2 := x1.stored false nn no nk nc ne
  have s2 := hsl.only_dbox x1 ho
  have n2 := hbn.only_dbox x1 ho
  have b2 := b1.trans (ho.below (B := B) (Nat.le_refl _))
  generalize (((w1.setCell ⟨B, 0, none⟩ (.bool false)).setCell ⟨B, 1, none⟩ (.bool nn)).setCell ⟨B, 2, none⟩ (.slice no nk nc)).setCell ⟨B, 3, none⟩ (.int .i64 ne) = W2 at *
  clear c0 c1 c2 c3 g0 g1 g2 g3 x1 b1 ho hsl hbn
  have hnk : nk ≤ 4096 := by
    rw [← s2.len]
    have h4 := (nd_blen hnd).1
    exact limbs_of_blen (a := m.natAbs) (k := 4096) (show blen m.natAbs ≤ 131072 from h4)
  have hne := (nd_blen hnd).2
  have hne0 : -65536 ≤ ne := hne.1
  have hne1 : ne ≤ 65536 := hne.2
  clear hne
  have CS := Lib.hid (fun wx (h : Ext W2 wx) => sign_any nn no nk nc m wx ((n2.below h).bg (by omega)))
  have CG := Lib.hid (signOfDyad_any false nn no nk nc ne)
  have hcells : ∀ wx, Ext W2 wx → (wx.cell? ⟨B, 0, none⟩ = some (.bool false) ∧ wx.cell? ⟨B, 1, none⟩ = some (.bool nn) ∧ wx.cell? ⟨B, 2, none⟩ = some (.slice no nk nc) ∧ wx.cell? ⟨B, 3, none⟩ = some (.int .i64 ne)) := fun wx h => ⟨(x2.ext h).c0, (x2.ext h).c1, (x2.ext h).c2, (x2.ext h).c3⟩
  have HC := Lib.hid hcells
  have B2 := Lib.hid (And.intro b2 x2.lt)
  have HND := Lib.hid hnd
  have S2 := Lib.hid s2
  clear hcells s2 n2 x2 b2 hnd
  obtain ⟨c0, c1, c2, c3⟩ := HC.out W2 (Ext.refl _)
  by_cases hm : m = 0
  · have v1 : sgn3 m 0 = 0 := by rw [hm]; decide
    go_wp2_with fail
    refine (CS.out _ (Ext.refl _)).mono ?_
    rintro r w3 ⟨rfl, hE⟩
    have E3 : Ext W2 w3 := hE
    clear c0 c1 c2 c3 hE
    go_wp2
    go_ret
    refine ⟨by unfold rz; rw [if_pos hm]; rfl, ?_⟩
    show Below _ _ _
    rw [HBe.out]
    exact B2.out.1.trans (Below.mono E3 (by have := B2.out.2; omega))
  · have hodd : m.natAbs % 2 = 1 := by
      rcases HND.out with ⟨h, _⟩ | ⟨h, _⟩
      · exact absurd h hm
      · exact h
    have v1 : (sgn3 m 0 == 0) = false := by rw [beq_eq_false_iff_ne]; unfold sgn3; split <;> (try split) <;> omega
    have CL := Lib.hid (fun wx (h : Ext W2 wx) => flead_any no nk nc m.natAbs ne wx (S2.out.below h) hodd (by omega) (by omega) (by omega))
    have CR := Lib.hid (fun (H L : Nat) (E : Int) (T : Bool) (j : Nat) (hH : H < 18446744073709551616) (hL : L < 18446744073709551616) (hV : H * 18446744073709551616 + L = m.natAbs / 2 ^ j) (h0 : H * 18446744073709551616 + L ≠ 0) (hE : E = ne + j) (hTT : T = decide (m.natAbs % 2 ^ j ≠ 0)) (h53 : T = true → 2 ^ 53 ≤ H * 18446744073709551616 + L) (hj : j ≤ 3200000) (wx : World) =>
      fround_rz (m := m) (e := ne) hH hL hV h0 hE hTT h53 hj (by omega) (by omega) HNN.out hm mode wx)
    clear hodd
    go_wp2_with fail
    refine (CS.out _ (Ext.refl _)).mono ?_
    rintro r w3 ⟨rfl, hE⟩
    have E3 : Ext W2 w3 := hE
    clear c0 c1 c2 c3 hE
    obtain ⟨c0, c1, c2, c3⟩ := HC.out w3 E3
    go_upto_region 6 with fail
    clear v1
    have e0 : Ext W2 w3.drew := Ext.trans E3 ((Below.refl _ _).drew)
    go_region_held3 (fun wx => wx.cell? ⟨B, 0, none⟩ = some (.bool false) ∧ wx.cell? ⟨B, 1, none⟩ = some (.bool nn) ∧ wx.cell? ⟨B, 2, none⟩ = some (.slice no nk nc) ∧ wx.cell? ⟨B, 3, none⟩ = some (.int .i64 ne))
      (first | exact HC.out _ (by assumption))
      (first
        | (go_at_call 94; refine (CL.out _ (by assumption)).mono ?_; rintro e wn ⟨H, L, E, T, j, rfl, hH, hL, hV, h0, hE, hTT, h53, hj, hE1⟩; have CR := Lib.hid (CR.out H L E T j hH hL hV h0 hE hTT h53 hj); clear hV h0 hE hTT h53 hj; have e1 : Ext W2 wn := Ext.trans (by assumption) hE1)
        | (go_at_call 96; refine (CG.out _).mono ?_; rintro e wn ⟨rfl, hE1⟩; have e1 : Ext W2 wn := Ext.trans (by assumption) hE1)
        | (go_at_call 95; refine (CR.out _).mono ?_; rintro e wn ⟨rfl, hE1⟩; have e1 : Ext W2 wn := Ext.trans (by assumption) hE1))
    all_goals
      have EF : Ext W2 wn := by assumption
      go_wp2
      go_ret
      refine ⟨rfl, ?_⟩
      show Below _ _ _
      rw [HBe.out]
      exact B2.out.1.trans (Below.mono EF (by have := B2.out.2; omega))

theorem frd_any (v : Value) (d : Dy) (mode : Int) (w : World) (hv : Dg w v d) (hT : Table w) :
    Calls Tryz.prog 65 #[v, .int .i64 mode] w fun r w' => r = .returned (.int .u64 ((frdF d mode : Nat) : Int)) ∧ Ext w w' := by
  cases d with
  | none => exact frd_none v mode w hv hT
  | some p => exact frd_some v p.1 p.2 mode w hv hT
end Go.Proofs.YtapcecjbmcoliaaGreatDoor

namespace Go.Proofs.YtapcecjbmcoliaaGreatDoor
open Go.RowKit

theorem addF_at {a b r : Nat} {mode : Int} (ha : a < 18446744073709551616) (hb : b < 18446744073709551616) (h : faddF a b mode = r) (w : World) : Calls Tryz.prog 36 #[.int .u64 (a : Int), .int .u64 (b : Int), .int .i64 mode] w fun e w' => e = .returned (.int .u64 (r : Int)) ∧ Ext w w' := by rw [← h]; exact fadd_any a b mode ha hb w
theorem frd_at {v : Value} {d : Dy} {mode : Int} {r : Nat} {w : World} (hv : Dg w v d) (hT : Table w) (h : frdF d mode = r) : Calls Tryz.prog 65 #[v, .int .i64 mode] w fun e w' => e = .returned (.int .u64 (r : Int)) ∧ Ext w w' := by rw [← h]; exact frd_any v d mode w hv hT
theorem fma_lt {a b c : Nat} (mode : Int) (hc : c < 18446744073709551616) : fmaF a b c mode < 18446744073709551616 := by
  have h1 := sgz_le (fneg a != fneg b)
  have h2 := (cancel_num mode).2.1
  have h3 := fun S m => (rsum_num S m mode).2
  unfold fmaF
  repeat' split
  all_goals first | omega | exact h3 _ _
theorem fadd_lt {a b : Nat} (mode : Int) (hb : b < 18446744073709551616) : faddF a b mode < 18446744073709551616 := fma_lt mode hb
end Go.Proofs.YtapcecjbmcoliaaGreatDoor

namespace Go.Proofs.YtapcecjbmcoliaaGreatDoor
open Go.RowKit

/-- what comparing two dyads gives -/
def DcmpIs (d d' : Dy) (c : Int) (ok : Bool) : Prop := (d = none ∨ d' = none) ∧ c = 0 ∧ ok = false ∨ d ≠ none ∧ d' ≠ none ∧ c = sgn3 (sc d) (sc d') ∧ ok = true
theorem dcmpIs_any (d d' : Dy) : ∃ c ok, DcmpIs d d' c ok := by
  cases d with
  | none => exact ⟨0, false, Or.inl ⟨Or.inl rfl, rfl, rfl⟩⟩
  | some p => cases d' with
    | none => exact ⟨0, false, Or.inl ⟨Or.inr rfl, rfl, rfl⟩⟩
    | some q => exact ⟨_, true, Or.inr ⟨by simp, by simp, rfl, rfl⟩⟩
theorem dcmp_at {u v : Value} {d d' : Dy} {w : World} (hu : Dg w u d) (hv : Dg w v d') (hT : Table w) {c : Int} {ok : Bool} (h : DcmpIs d d' c ok) :
    Calls Tryz.prog 7 #[u, v] w fun e w' => e = .returned (.tuple #[.int .i64 c, .bool ok]) ∧ Ext w w' :=
  (dcmp_any u v d d' w hu hv hT).mono fun e w' ⟨he, hw⟩ => by
    refine ⟨?_, hw⟩
    rcases h with ⟨h0, rfl, rfl⟩ | ⟨h1, h2, rfl, rfl⟩
    · rcases he with ⟨_, he⟩ | ⟨h3, h4, _⟩
      · exact he
      · rcases h0 with h0 | h0
        · exact absurd h0 h3
        · exact absurd h0 h4
    · rcases he with ⟨h0, _⟩ | ⟨_, _, he⟩
      · rcases h0 with h0 | h0
        · exact absurd h0 h1
        · exact absurd h0 h2
      · exact he
end Go.Proofs.YtapcecjbmcoliaaGreatDoor

namespace Go.Proofs.YtapcecjbmcoliaaGreatDoor
open Go.RowKit

theorem fof_at {f : Nat} {d : Dy} (hf : f < 18446744073709551616) (h : fdy f = d) (w : World) (hT : Table64 w) : Calls Tryz.prog 18 #[.int .u64 (f : Int)] w fun e w' => ∃ v, e = .returned v ∧ Dn w' v d ∧ Ext w w' := by rw [← h]; exact fof_any f hf w hT
theorem is_dcmpS {d d' : Dy} {S : Nat} {N N' : Int} (h : Is d S N) (h' : Is d' S N') (hS : S ≤ 65536) : DcmpIs d d' (sgn3 N N') true := by
  have h1 := is_cmp h h' hS
  refine Or.inr ⟨?_, ?_, h1.symm, rfl⟩
  · obtain ⟨m, e, h2, _⟩ := h; rw [h2]; simp
  · obtain ⟨m, e, h2, _⟩ := h'; rw [h2]; simp
theorem fdy_small (f : Nat) : blen (dm (fdy f)).natAbs ≤ 3100 := by
  cases hf : finB f
  · rw [show fdy f = none by unfold fdy; rw [hf]; rfl]; simp [dm, blen]
  · cases hz : zeroB f
    · have h0 : sig f ≠ 0 := fun h => by have h1 := (sig_zero f).1 h; unfold zeroB at hz; rw [h1] at hz; simp at hz
      obtain ⟨h1, h2, _⟩ := fdy_parts hf h0 (tzf_isTz (sig f))
      rw [h1]
      have h3 : (dm (some (if fneg f then -((sig f / 2 ^ tzf (sig f) : Nat) : Int) else ((sig f / 2 ^ tzf (sig f) : Nat) : Int), -1074 + (fsh f : Int) + tzf (sig f)))).natAbs = sig f / 2 ^ tzf (sig f) := by
        show (if fneg f then -((sig f / 2 ^ tzf (sig f) : Nat) : Int) else ((sig f / 2 ^ tzf (sig f) : Nat) : Int)).natAbs = _
        cases fneg f
        · exact Int.natAbs_natCast _
        · show (-((sig f / 2 ^ tzf (sig f) : Nat) : Int)).natAbs = _
          rw [Int.natAbs_neg, Int.natAbs_natCast]
      rw [h3]
      exact Nat.le_trans (blen_le_of_lt (k := 53) h2) (by omega)
    · rw [fdy_zero hz]; simp [dm, blen]

/-- products of floats, exactly -/
theorem fdy_mul {f g : Nat} (hf : finB f = true) (hg : finB g = true) : Is (dmul (fdy f) (fdy g)) (1074 + 1074) (fzs f * fzs g) := by
  have b1 := fz_bound hf
  have b2 := fz_bound hg
  rw [← fzs_abs] at b1 b2
  exact (fdy_is hf).mul (fdy_is hg) (by omega) (abs_mul_lt b1 b2) (by rw [low46_le]; omega)
theorem pos_fzs {f : Nat} (h : fneg f = false) : fzs f = (fz f : Int) := by unfold fzs; rw [h]; rfl
end Go.Proofs.YtapcecjbmcoliaaGreatDoor

namespace Go.Proofs.YtapcecjbmcoliaaGreatDoor
open Go Go.RowKit

/-- the first j elements of block g read as the first of the dyads D -/
structure Tb (wr : World) (g n : Nat) (L : List DP) (j : Nat) (D : List Dy) : Prop where
  db : DB wr g L
  len : L.length = n
  fit : j ≤ n
  dn : ∀ i, i < j → Dn wr (L.getD i DP.zero).v (D.getD i none)
theorem Tb.below {w w' : World} {g n j : Nat} {L : List DP} {D : List Dy} (h : Tb w g n L j D) (hb : Ext w w') : Tb w' g n L j D :=
  ⟨h.db.below hb, h.len, h.fit, fun i hi => (h.dn i hi).ext hb⟩
theorem Tb.set {w : World} {g n j : Nat} {L : List DP} {D : List Dy} (h : Tb w g n L j D) {p : DP} (hp : Dn w p.v (D.getD j none)) (hn : j < n) : Tb (set4 w g (4 * j) p) g n (L.set j p) (j + 1) D := by
  have ho := only_set4' w g (4 * j) p
  refine ⟨h.db.set _ _, by simp [h.len], by omega, fun i hi => ?_⟩
  by_cases hlt : i < j
  · have e1 : (L.set j p).getD i DP.zero = L.getD i DP.zero := by
      simp [List.getD, show j ≠ i by omega]
    rw [e1]
    exact (h.dn i hlt).only_db h.db ho
  · obtain rfl : i = j := by omega
    have e1 : (L.set i p).getD i DP.zero = p := by
      have := h.len
      simp [List.getD, show i < L.length by omega]
    rw [e1]
    exact hp.only_db h.db ho
theorem Tb.sl {w : World} {g n : Nat} {L : List DP} {D : List Dy} (h : Tb w g n L n D) (hD : D.length = n) : DSl w (some ⟨g, 0, none⟩) n n (L.take n) D :=
  h.db.sl (by rw [h.len]; exact Nat.le_refl _) hD (Nat.le_refl _) (fun i hi => (h.dn i hi).dg)

theorem map_getD {f : Nat → Dy} {l : List Nat} {j : Nat} (h : j < l.length) : (l.map f).getD j none = f (l.getD j 0) := by
  simp [List.getD, h]

set_option maxRecDepth 100000 in
set_option maxHeartbeats 4000000 in
theorem asum_any (ao : Option Addr) (n cap : Nat) (l : List Nat) (w : World) (h : Fs w ao n cap l) (hT : Table w) (hT6 : Table64 w) (hn : n ≤ 1000000) :
    Calls Tryz.prog 12 #[.slice ao n cap] w fun e w' => ∃ v, e = .returned v ∧ Dn w' v (dtotal (l.map fdy)) ∧ Ext w w' := by
  have HL := Lib.hid h.len
  have HH := Lib.hid h
  clear h
  go_enter Tryz.func12, Tryz.ntmps12
  go_upto_region 1 with fail
  obtain ⟨W, hW, hB, hbx, hz⟩ := dbox_new w false false none 0 0 0
  rw [← hW]
  clear hW
  have HT := Lib.hid hT; clear hT
  have HT6 := Lib.hid hT6; clear hT6
  generalize hBe : w.heap.size = B at *
  have HBe := Lib.hid hBe
  have HEX : ∀ wx, Below B w wx → Ext w wx := fun wx h => by rw [← hBe] at h; exact h
  have HEX := Lib.hid HEX
  clear hBe
  go_wp2_with (refine wpList_make_dyads _ rfl _ _ rfl _ _ n n rfl rfl rfl rfl (by omega) (by omega) ?_)
  intro w1 hdb hw1 hsz1
  obtain ⟨hE, hE'⟩ := bnext hB (by omega) hw1
  have hbx := hbx.below hw1
  have hgB : B < W.heap.size := by omega
  generalize W.heap.size = g at *
  have htb : Tb w1 g n (List.replicate n DP.zero) 0 (l.map fdy) := ⟨hdb, by simp, Nat.zero_le _, fun i hi => absurd hi (Nat.not_lt_zero _)⟩
  clear hB hw1 hz hsz1 hdb
  go_wp2
  go_loopw [4, 5, 11] (fun _ _ ix wr => ∃ (j : Nat) (L : List DP), j ≤ n ∧ ix = .int .i64 j ∧ Tb wr g n L j (l.map fdy) ∧ Below B w wr ∧ DBox wr B false false none 0 0 0)
    (fun _ _ ix _ => n - (intOf ix).toNat)
  case atStart => exact ⟨0, _, Nat.zero_le _, rfl, htb, hE, hbx⟩
  case round =>
    obtain ⟨j, L, hj, rfl, htb, hE, hbr⟩ := hrel
    have hgl := htb.db.lt
    have hbl := hbr.lt
    by_cases hlt : j < n
    · have h := HH.out.below (HEX.out _ hE)
      obtain ⟨b, off, rfl, hc⟩ := h.cells (by omega)
      have hcj := hc j hlt
      have hfl := h.getD_lt j
      have hmap := map_getD (f := fdy) (l := l) (j := j) (by rw [HL.out]; exact hlt)
      obtain ⟨x, hx⟩ : ∃ x, l.getD j 0 = x := ⟨_, rfl⟩
      rw [hx] at hcj hfl hmap
      have HM := Lib.hid hmap
      clear hc h hx hmap
      go_wp2_with fail
      refine (fof_any x hfl wr (HT6.out.below (HEX.out _ hE))).mono ?_
      rintro e w2 ⟨v, rfl, hv, hw2⟩
      obtain ⟨rb, rn, ro, rk, rc, re, rfl⟩ := hv.parts
      have htb := htb.below hw2
      have hbr := hbr.below hw2
      obtain ⟨hE2, hE2'⟩ := bnext hE (by omega) hw2
      have hset := htb.set (p := ⟨rb, rn, ro, rk, rc, re⟩) (by rw [HM.out]; exact hv) hlt
      have ho := only_set4' w2 g (4 * j) ⟨rb, rn, ro, rk, rc, re⟩
      have hE3 := hE2.trans (ho.below (B := B) (by omega))
      have hbr3 := hbr.only ho (by omega)
      obtain ⟨c0, c1, c2, c3⟩ := htb.db.c j (by rw [htb.len]; exact hlt)
      have f0 := htb.db.f (4 * j)
      have f1 := htb.db.f (4 * j + 1)
      have f2 := htb.db.f (4 * j + 2)
      have f3 := htb.db.f (4 * j + 3)
      have e5 : j * 4 = 4 * j := by omega
      have HS := Lib.hid hset
      have HE3 := Lib.hid hE3
      have HB3 := Lib.hid hbr3
      clear hset hE3 hbr3 ho
      go_wp2
      go_roundw
      case rel => exact ⟨j + 1, _, by omega, by go_num, HS.out, HE3.out, HB3.out⟩
      case measure => simp [intOf] <;> omega
    · obtain rfl : j = n := by omega
      have hdsl := htb.sl (by simp [HL.out])
      have C := Lib.hid (dsum_any _ _ _ _ _ wr hdsl (HT.out.below (HEX.out _ hE)) (by omega))
      clear hdsl
      go_wp2_with fail
      refine C.out.mono ?_
      rintro e w4 ⟨v, rfl, hv, hw4⟩
      obtain ⟨rb, rn, ro2, rk, rc, re, rfl⟩ := hv.parts
      have bx := hbr.below hw4
      obtain ⟨hE4, hE4'⟩ := bnext hE (by omega) hw4
      clear hbr hE hw4 htb
      have q0 := bx.c0
      have q1 := bx.c1
      have q2 := bx.c2
      have q3 := bx.c3
      have f0 := bx.f 0
      have f1 := bx.f 1
      have f2 := bx.f 2
      have f3 := bx.f 3
      have hres := dn_stored bx hv w hE4 (Nat.le_refl B)
      have z3 := bx.stored rb rn ro2 rk rc re
      have z0 := z3.c0
      have z1 := z3.c1
      have z2 := z3.c2
      have z4 := z3.c3
      have HRES := Lib.hid hres; clear hres z3
      go_wp2
      refine bodyPost_ret (v := .agg #[.bool rb, .bool rn, .slice ro2 rk rc, .int .i64 re]) (by simp [results, Tryz.results12, go_sem, z0, z1, z2, z4]) rfl ⟨_, rfl, ?_, ?_⟩
      · exact HRES.out.1
      · show Below _ _ _; rw [HBe.out]; exact HRES.out.2
end Go.Proofs.YtapcecjbmcoliaaGreatDoor
