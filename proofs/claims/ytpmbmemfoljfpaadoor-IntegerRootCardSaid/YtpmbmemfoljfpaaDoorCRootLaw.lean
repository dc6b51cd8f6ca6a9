/- IntegerRoot returns true, from what its callees do. -/
import Derived.Test.YtpmbmemfoljfpaaDoorGg
import Derived.Test.YtpmbmemfoljfpaaDoorCPowers
import Derived.Test.YtpmbmemfoljfpaaDoorGh
namespace Go.Proofs.YtpmbmemfoljfpaaDoor
open Go.RowKit

theorem sqrt_bag {W w : World} {L : List Ent} {u : Value} {x : Int} {N : Nat} {c : Bool} (h : St W w L) (h1 : ⟨u, x, N, c⟩ ∈ L) (hN : N ≤ 150) (hx : 0 ≤ x) :
    Calls Tryd.prog 53 #[u] w fun e w' => ∃ qn qo qk qc, ∃ s : Nat, e = .returned (.tuple #[.agg #[.bool qn, .slice qo qk qc], .int .i64 0]) ∧ s * s ≤ x.natAbs ∧ x.natAbs < (s + 1) * (s + 1) ∧
      St W w' (⟨.agg #[.bool qn, .slice qo qk qc], s, N, true⟩ :: L) := by
  obtain ⟨nb, ao, n, ca, rfl, b1, n1, a1, _⟩ := h.bag _ h1
  simp only at n1 a1 b1
  refine (sqrt_any nb ao n ca x w b1 (by omega) hx).mono fun e w' ⟨qn, qo, qk, qc, s, he, hr, hq1, hq2, hw⟩ => ⟨qn, qo, qk, qc, s, he, hq1, hq2, h.push hw (ok_bn hr ?_ (by omega))⟩
  have : s ≤ s * s := Nat.le_mul_self s
  simp only [Int.natAbs_natCast]
  omega

theorem one_bagE {W w : World} {L : List Ent} (h : St W w L) :
    Calls Tryd.prog 30 #[.int .i64 1] w fun e w' => ∃ r, e = .returned r ∧ Ext w w' ∧ St W w' (⟨r, 1, 1, true⟩ :: L) := by
  have h0 : St w w L := ⟨Ext.refl w, h.bag⟩
  exact (one_bag h0).mono fun e w' ⟨r, he, hr⟩ => ⟨r, he, hr.ext, ⟨h.ext.trans hr.ext, hr.bag⟩⟩

theorem add_bagE {W w : World} {L : List Ent} {u v : Value} {x y : Int} {N M : Nat} {c d : Bool} (h : St W w L) (h1 : ⟨u, x, N, c⟩ ∈ L) (h2 : ⟨v, y, M, d⟩ ∈ L) (hN : N ≤ 100000) (hM : M ≤ 100000) :
    Calls Tryd.prog 36 #[u, v] w fun e w' => ∃ qn qo qk qc, e = .returned (.agg #[.bool qn, .slice qo qk qc]) ∧ Ext w w' ∧ St W w' (⟨.agg #[.bool qn, .slice qo qk qc], x + y, max N M + 1, true⟩ :: L) := by
  have h0 : St w w L := ⟨Ext.refl w, h.bag⟩
  refine (add_bag h0 h1 h2 hN hM).mono fun e w' ⟨r, he, hr⟩ => ?_
  obtain ⟨qn, qo, qk, qc, hv, _⟩ := hr.bag _ (List.Mem.head _)
  simp only at hv
  subst hv
  exact ⟨qn, qo, qk, qc, he, hr.ext, ⟨h.ext.trans hr.ext, hr.bag⟩⟩

theorem root_unique {s a : Nat} (h1 : s * s ≤ a * a) (h2 : a * a < (s + 1) * (s + 1)) : s = a := by
  have e1 : s ≤ a := Nat.mul_self_le_mul_self_iff.1 h1
  have e2 : a < s + 1 := Nat.mul_self_lt_mul_self_iff.1 h2
  omega

set_option maxRecDepth 100000 in
set_option maxHeartbeats 4000000 in
theorem rootLaw_yes (nb : Bool) (ao : Option Addr) (n ca : Nat) (xs : List Int) (w : World) (ha : Sl w ao n ca xs) (hn : n ≤ 40) (haw : AwakeSays w) :
    Calls Tryd.prog 9 #[.agg #[.bool nb, .slice ao n ca]] w fun e w' => e = .returned (.bool true) ∧ Ext w w' := by
  go_enter Tryd.func9, Tryd.ntmps9
  go_wp2_with fail
  obtain ⟨W, hW, hB, hx⟩ := box_made w nb ao n ca
  rw [← hW]
  clear hW
  have ra := ok_raw (nb := nb) (ha.below hB) 40 hn (by omega)
  have hAW : AwakeSays W := fun w' h => haw w' (hB.trans h)
  generalize sgd nb xs = x at *
  generalize hg : w.heap.size = B at *
  have HG := Lib.hid hg; clear hg
  have hst : St W W [⟨.agg #[.bool nb, .slice ao n ca], x, 40, false⟩] :=
    ⟨Ext.refl W, fun p hp => by
      simp only [List.mem_cons, List.not_mem_nil, or_false] at hp
      subst hp; exact ra⟩
  have HB := Lib.hid hB
  clear ha ra hB haw
  refine (slim_yes nb ao n ca 40 _ hn).mono ?_
  rintro e w1 ⟨rfl, h1⟩
  have st1 := hst.step h1
  have b0 := hx.ext st1.ext
  have d0 := b0.c0
  have d1 := b0.c1
  clear h1 hst
  go_wp2_with fail
  refine (abs_bag st1 (List.Mem.head _) (by omega)).mono ?_
  rintro e w2 ⟨r1, rfl, st2⟩
  obtain ⟨bn, bo, bk, bc, rfl, _⟩ := st2.bag _ (List.Mem.head _)
  clear d0 d1 st1
  go_upto_region 4 with fail
  obtain ⟨V, hV, hv, b1⟩ := box_made w2 bn bo bk bc
  rw [← hV]
  clear hV
  have st3 := st2.step hv
  generalize w2.heap.size = D1 at *
  have b0 := hx.ext st3.ext
  have HV := Lib.hid st3.ext
  have stV : St V V _ := ⟨Ext.refl V, st3.bag⟩
  have d0 := b1.c0
  have d1 := b1.c1
  clear st2 hv st3 hx
  go_wp2_with fail
  refine (sqrt_bag stV (u := .agg #[.bool bn, .slice bo bk bc]) (x := (x.natAbs : Int)) (N := 40) (c := true) (by simp) (by omega) (by omega)).mono ?_
  rintro e w3 ⟨sn, so, sk, sc, s, rfl, hs1, hs2, st4⟩
  rw [Int.natAbs_natCast] at hs1 hs2
  have HS1 := Lib.hid hs1
  have HS2 := Lib.hid hs2
  clear d0 d1 hs1 hs2
  go_upto_region 5 with fail
  obtain ⟨X, hX, hXe, b2⟩ := box_made w3 sn so sk sc
  rw [← hX]
  clear hX
  have st5 := st4.step hXe
  generalize w3.heap.size = D2 at *
  have b0 := b0.ext st5.ext
  have b1 := b1.ext st5.ext
  have HX := Lib.hid (HV.out.trans st5.ext)
  have stX : St X X _ := ⟨Ext.refl X, st5.bag⟩
  have d0 := b0.c0
  have d1 := b0.c1
  clear st4 hXe st5 stV HV
  go_wp2_with fail
  refine (mul_bag stX (u := .agg #[.bool nb, .slice ao n ca]) (v := .agg #[.bool nb, .slice ao n ca]) (x := x) (y := x) (N := 40) (M := 40) (c := false) (d := false) (by simp) (by simp) (by omega) (by omega) (by omega)).mono ?_
  rintro e w4 ⟨r2, rfl, st6⟩
  go_wp2_with fail
  refine (sqrt_bag st6 (List.Mem.head _) (by omega) (sq_nonneg x)).mono ?_
  rintro e w5 ⟨rn, ro, rk, rc, s2, rfl, hr1, hr2, st7⟩
  rw [Int.natAbs_mul] at hr1 hr2
  have hr3 := root_unique hr1 hr2
  subst hr3
  clear d0 d1 hr1 hr2 st6
  go_upto_region 6 with fail
  obtain ⟨Z, hZ, hZe, b3⟩ := box_made w5 rn ro rk rc
  rw [← hZ]
  clear hZ
  have st8 := st7.step hZe
  generalize w5.heap.size = D3 at *
  have b0 := b0.ext st8.ext
  have b1 := b1.ext st8.ext
  have b2 := b2.ext st8.ext
  have HZ := Lib.hid (HX.out.trans st8.ext)
  have stZ : St Z Z _ := ⟨Ext.refl Z, st8.bag⟩
  have hAZ : AwakeSays Z := fun w' h => hAW w' (HZ.out.trans h)
  clear st7 hZe st8 stX HX hAW
  go_cut [8] from 27 (fun p wx => ∃ g tn tp tk tc r, p = .pointer (some ⟨g, 0, none⟩) ∧ Box wx g tn tp tk tc ∧
    St Z wx [⟨.agg #[.bool tn, .slice tp tk tc], (s : Int) + 1, 41, true⟩, ⟨r, 1, 1, true⟩, ⟨.agg #[.bool rn, .slice ro rk rc], x.natAbs, 80, true⟩, ⟨r2, x * x, 80, true⟩, ⟨.agg #[.bool sn, .slice so sk sc], s, 40, true⟩, ⟨.agg #[.bool bn, .slice bo bk bc], x.natAbs, 40, true⟩, ⟨.agg #[.bool nb, .slice ao n ca], x, 40, false⟩])
  case first =>
    have hcells : ∀ wx, Ext Z wx → (wx.cell? ⟨D2, 0, none⟩ = some (.bool sn) ∧ wx.cell? ⟨D2, 1, none⟩ = some (.slice so sk sc)) := fun wx h => ⟨(b2.below h).c0, (b2.below h).c1⟩
    have HC := Lib.hid hcells
    clear hcells b0 b1 b2 b3
    obtain ⟨d0, d1⟩ := HC.out Z (Ext.refl Z)
    have std := stZ.drew
    go_region_held3 (fun wx => wx.cell? ⟨D2, 0, none⟩ = some (.bool sn) ∧ wx.cell? ⟨D2, 1, none⟩ = some (.slice so sk sc))
      (first | exact HC.out _ (by first | exact St.ext (by assumption) | exact St.ext (St.alloc (by assumption) _)))
      (first
        | (go_at_call 30; refine (one_bagE (W := Z) (by first | assumption | exact St.alloc (by assumption) _)).mono ?_; rintro e wn ⟨r, rfl, hE, stn⟩; first | (have bz : Box wn Z.heap.size false none 0 0 := box_after (w := Z.drew) hE; have z0 := bz.c0; have z1 := bz.c1; have z2 := bz.f 0; have z3 := bz.f 1) | skip)
        | (go_at_call 36; refine (add_bagE (W := Z) (by first | assumption | exact St.alloc (by assumption) _) (by repeat (first | exact List.Mem.head _ | refine List.Mem.tail _ ?_)) (by repeat (first | exact List.Mem.head _ | refine List.Mem.tail _ ?_)) (by omega) (by omega)).mono ?_; rintro e wn2 ⟨xn, xo, xk, xc, rfl, hE, stn⟩; first | (have bz := box_after hE; have y0 := bz.c0; have y1 := bz.c1; have y2 := bz.f 0; have y3 := bz.f 1; have sts := St.stored stn bz (by exact Below.size (St.ext (by assumption))) xn xo xk xc) | (have bz := Box.below bz hE; have y0 := bz.c0; have y1 := bz.c1; have y2 := bz.f 0; have y3 := bz.f 1; have sts := St.stored stn bz (Nat.le_refl _) xn xo xk xc) | skip))
    all_goals
      go_wp2
      go_meet
    all_goals
      first
        | exact ⟨_, xn, xo, xk, xc, _, rfl, bz.stored xn xo xk xc, sts⟩
        | exact ⟨_, xn, xo, xk, xc, _, rfl, Box.new _ xn xo xk xc, stn.alloc _⟩
  case rest =>
    obtain ⟨g, tn, tp, tk, tc, r9, rfl, b4, stY0⟩ := hcut
    have hY := stY0.ext
    have stY : St wc wc _ := ⟨Ext.refl wc, stY0.bag⟩
    have hAY : AwakeSays wc := fun w' h => hAZ w' (hY.trans h)
    have b1 := b1.ext hY
    have b2 := b2.ext hY
    have b3 := b3.ext hY
    have HY := Lib.hid (HZ.out.trans hY)
    have hcells : ∀ wx, Ext wc wx → ((wx.cell? ⟨D1, 0, none⟩ = some (.bool bn) ∧ wx.cell? ⟨D1, 1, none⟩ = some (.slice bo bk bc)) ∧ (wx.cell? ⟨D2, 0, none⟩ = some (.bool sn) ∧ wx.cell? ⟨D2, 1, none⟩ = some (.slice so sk sc)) ∧
        (wx.cell? ⟨D3, 0, none⟩ = some (.bool rn) ∧ wx.cell? ⟨D3, 1, none⟩ = some (.slice ro rk rc)) ∧ (wx.cell? ⟨g, 0, none⟩ = some (.bool tn) ∧ wx.cell? ⟨g, 1, none⟩ = some (.slice tp tk tc))) := fun wx h =>
      ⟨⟨(b1.below h).c0, (b1.below h).c1⟩, ⟨(b2.below h).c0, (b2.below h).c1⟩, ⟨(b3.below h).c0, (b3.below h).c1⟩, ⟨(b4.below h).c0, (b4.below h).c1⟩⟩
    have HC := Lib.hid hcells
    clear hcells b0 b1 b2 b3 b4 hY stY0 stZ hAZ HZ
    obtain ⟨⟨d0, d1⟩, ⟨d2, d3⟩, ⟨d4, d5⟩, d6, d7⟩ := HC.out wc (Ext.refl wc)
    obtain ⟨t, ht, ht0⟩ : ∃ t, sgn3 ((s : Int) * s) (x.natAbs : Int) = t ∧ t ≤ 0 := by
      refine ⟨_, rfl, ?_⟩
      have h1 := HS1.out
      have h2 : ((s * s : Nat) : Int) = (s : Int) * s := Int.natCast_mul _ _
      unfold sgn3
      rw [if_neg (show ¬ (x.natAbs : Int) < (s : Int) * s by omega)]
      split <;> omega
    have HC1 := Lib.hid ht; clear ht
    have hc2 : sgn3 (((s : Int) + 1) * ((s : Int) + 1)) (x.natAbs : Int) = 1 := by
      have h1 := HS2.out
      have h2 : (((s + 1) * (s + 1) : Nat) : Int) = ((s : Int) + 1) * ((s : Int) + 1) := Int.natCast_mul _ _
      unfold sgn3
      rw [if_neg (by omega), if_pos (by omega)]
    have HC2 := Lib.hid hc2; clear hc2
    go_upto_region 7 with fail
    have std := stY.drew
    go_region_held3 (fun wx => (wx.cell? ⟨D1, 0, none⟩ = some (.bool bn) ∧ wx.cell? ⟨D1, 1, none⟩ = some (.slice bo bk bc)) ∧ (wx.cell? ⟨D2, 0, none⟩ = some (.bool sn) ∧ wx.cell? ⟨D2, 1, none⟩ = some (.slice so sk sc)) ∧
        (wx.cell? ⟨D3, 0, none⟩ = some (.bool rn) ∧ wx.cell? ⟨D3, 1, none⟩ = some (.slice ro rk rc)) ∧ (wx.cell? ⟨g, 0, none⟩ = some (.bool tn) ∧ wx.cell? ⟨g, 1, none⟩ = some (.slice tp tk tc)))
      (first | exact HC.out _ (by exact St.ext (by assumption)))
      (first
        | (go_at_call 40; refine (mul_bag (W := wc) (by assumption) (by repeat (first | exact List.Mem.head _ | refine List.Mem.tail _ ?_)) (by repeat (first | exact List.Mem.head _ | refine List.Mem.tail _ ?_)) (by omega) (by omega) (by omega)).mono ?_; rintro e wn ⟨r, rfl, stn⟩)
        | (go_at_call 26; refine (cmp_bag (W := wc) (by assumption) (by repeat (first | exact List.Mem.head _ | refine List.Mem.tail _ ?_)) (by repeat (first | exact List.Mem.head _ | refine List.Mem.tail _ ?_)) _ (by first | exact HC1.out | exact HC2.out)).mono ?_; rintro e wn ⟨rfl, stn⟩)
        | (go_at_call 19; refine (hAY _ (by exact St.ext (by assumption))).mono ?_; rintro e wn ⟨rfl, hwn⟩; have stn := St.step (W := wc) (by assumption) hwn)
        | (go_at_call 23; refine (big_bag (W := wc) (by assumption) (by repeat (first | exact List.Mem.head _ | refine List.Mem.tail _ ?_)) (by repeat (first | exact List.Mem.head _ | refine List.Mem.tail _ ?_)) rfl).mono ?_; rintro e wn ⟨rfl, stn⟩))
    go_wp2
    go_ret
    refine ⟨rfl, ?_⟩
    have h := stn.ext
    exact (HB.out.trans HY.out).trans h

set_option maxRecDepth 100000 in
set_option maxHeartbeats 4000000 in
theorem rootLaw_no (nb : Bool) (ao : Option Addr) (n ca : Nat) (w : World) (hn : ¬ n ≤ 40) (haw : AwakeSays w) :
    Calls Tryd.prog 9 #[.agg #[.bool nb, .slice ao n ca]] w fun e w' => e = .returned (.bool true) ∧ Ext w w' := by
  go_enter Tryd.func9, Tryd.ntmps9
  go_wp2_with fail
  obtain ⟨W, hW, hB, hx⟩ := box_made w nb ao n ca
  rw [← hW]
  clear hW
  have hAW : AwakeSays W := fun w' h => haw w' (hB.trans h)
  have HB := Lib.hid hB
  clear hB haw hx
  refine (slim_no nb ao n ca 40 _ hn).mono ?_
  rintro e w1 ⟨rfl, h1⟩
  go_wp2_with fail
  refine (hAW _ h1).mono ?_
  rintro e w4 ⟨rfl, h4⟩
  go_wp2
  go_ret
  exact ⟨rfl, HB.out.trans (h1.trans h4)⟩
end Go.Proofs.YtpmbmemfoljfpaaDoor
