import Derived.Test.YtolghagbpnjpgaaGreatDoorFQuotU40
import Derived.Test.YtolghagbpnjpgaaGreatDoorFQuotU43
import Derived.Test.YtolghagbpnjpgaaGreatDoorFQuotU24
namespace Go.Proofs.YtolghagbpnjpgaaGreatDoor
open Go Go.RowKit

/-- two integers, each in its block -/
def QR (w0 : World) (B D G : Nat) (qn : Bool) (qo : Option Addr) (qk qc : Nat) (rn : Bool) (ro : Option Addr) (rk rc : Nat) (Q R : Int) (w : World) : Prop :=
  Box w D qn qo qk qc ∧ Box w G rn ro rk rc ∧ Bn w qn qo qk qc Q ∧ Bn w rn ro rk rc R ∧ Below B w0 w
theorem qr_two {w w0 : World} {B D G : Nat} {qn rn an bn : Bool} {qo ro ao bo : Option Addr} {qk qc rk rc ak ac bk bc : Nat} {Q R : Int} (hD : Box w D an ao ak ac) (hG : Box w G bn bo bk bc) (hne : D ≠ G) (h1 : B ≤ D) (h2 : B ≤ G) (hq : Bn w qn qo qk qc Q) (hr : Bn w rn ro rk rc R) (hb : Below B w0 w) :
    QR w0 B D G qn qo qk qc rn ro rk rc Q R ((((w.setCell ⟨D, 0, none⟩ (.bool qn)).setCell ⟨D, 1, none⟩ (.slice qo qk qc)).setCell ⟨G, 0, none⟩ (.bool rn)).setCell ⟨G, 1, none⟩ (.slice ro rk rc)) := by
  have o1 := only_set2 w D (.bool qn) (.slice qo qk qc)
  have u1 := hD.stored qn qo qk qc
  have u2 := hG.only o1 (Ne.symm hne)
  have p1 := Bn.only_bx' hq hD o1
  have q1 := Bn.only_bx' hr hD o1
  have b1 := Below.trans hb (o1.below h1)
  generalize ((w.setCell ⟨D, 0, none⟩ (.bool qn)).setCell ⟨D, 1, none⟩ (.slice qo qk qc)) = v at *
  have o2 := only_set2 v G (.bool rn) (.slice ro rk rc)
  exact ⟨u1.only o2 hne, u2.stored rn ro rk rc, Bn.only_bx' p1 u2 o2, Bn.only_bx' q1 u2 o2, Below.trans b1 (o2.below h2)⟩
theorem qr_two' {w w0 : World} {B D G : Nat} {qn rn an bn : Bool} {qo ro ao bo : Option Addr} {qk qc rk rc ak ac bk bc : Nat} {Q R : Int} (hD : Box w D an ao ak ac) (hG : Box w G bn bo bk bc) (hne : D ≠ G) (h1 : B ≤ D) (h2 : B ≤ G) (hq : Bn w qn qo qk qc Q) (hr : Bn w rn ro rk rc R) (hb : Below B w0 w) :
    QR w0 B D G qn qo qk qc rn ro rk rc Q R ((((w.setCell ⟨G, 0, none⟩ (.bool rn)).setCell ⟨G, 1, none⟩ (.slice ro rk rc)).setCell ⟨D, 0, none⟩ (.bool qn)).setCell ⟨D, 1, none⟩ (.slice qo qk qc)) := by
  obtain ⟨a, b, c, d, e⟩ := qr_two hG hD (Ne.symm hne) h2 h1 hr hq hb
  exact ⟨b, a, d, c, e⟩
theorem qr_new {w w0 : World} {B D : Nat} {qn rn an : Bool} {qo ro ao : Option Addr} {qk qc rk rc ak ac : Nat} {Q R : Int} (hD : Box w D an ao ak ac) (h1 : B ≤ D) (h2 : B ≤ w.heap.size) (hq : Bn w qn qo qk qc Q) (hr : Bn w rn ro rk rc R) (hb : Below B w0 w) :
    QR w0 B D w.heap.size qn qo qk qc rn ro rk rc Q R (((w.setCell ⟨D, 0, none⟩ (.bool qn)).setCell ⟨D, 1, none⟩ (.slice qo qk qc)).alloc (.cells #[.bool rn, .slice ro rk rc] 31)) := by
  have o1 := only_set2 w D (.bool qn) (.slice qo qk qc)
  have u1 := hD.stored qn qo qk qc
  have p1 := Bn.only_bx' hq hD o1
  have q1 := Bn.only_bx' hr hD o1
  have b1 := Below.trans hb (o1.below h1)
  have hz := o1.size
  generalize ((w.setCell ⟨D, 0, none⟩ (.bool qn)).setCell ⟨D, 1, none⟩ (.slice qo qk qc)) = v at *
  have n := Box.new v rn ro rk rc
  rw [hz] at n
  exact ⟨u1.below (ext_allocB _ _), n, p1.below (ext_allocB _ _), q1.below (ext_allocB _ _), Below.trans b1 (Below.mono (ext_allocB _ _) (by omega))⟩

set_option maxRecDepth 100000 in
set_option maxHeartbeats 8000000 in
theorem refRatio_any (A C : Nat) (nb mb : Bool) (ao bo : Option Addr) (n m ca cb p : Nat) (w : World) (ha : Bg w nb ao n ca (A : Int)) (hb : Bg w mb bo m cb (C : Int)) (hbA : blen A ≤ 140000) (hbC : blen C ≤ 140000) (h0 : C ≠ 0) (hp : p ≤ 4096) :
    Calls Tryz.prog 92 #[.agg #[.bool nb, .slice ao n ca], .agg #[.bool mb, .slice bo m cb], .int .i64 (p : Int)] w fun e w' => ∃ qn qo qk qc, e = .returned (.tuple #[.agg #[.bool qn, .slice qo qk qc], .int .i64 (-((p + 2 + blen C - blen A : Nat) : Int)), .bool (decide (A * 2 ^ (p + 2 + blen C - blen A) % C ≠ 0))]) ∧ Bn w' qn qo qk qc ((A * 2 ^ (p + 2 + blen C - blen A) / C : Nat) : Int) ∧ Ext w w' := by
  have hkb : p + 2 + blen C - blen A ≤ 150000 := by omega
  have HMX := Lib.hid (show max ((p : Int) + 2 + (blen C : Int) - (blen A : Int)) 0 = ((p + 2 + blen C - blen A : Nat) : Int) by omega)
  obtain ⟨k, hk⟩ : ∃ k, p + 2 + blen C - blen A = k := ⟨_, rfl⟩
  rw [hk] at hkb HMX ⊢
  have hM : blen (A * 2 ^ k) ≤ 300000 := by
    have h1 := blen_lt A
    have h2 : A * 2 ^ k < 2 ^ (blen A + k) := by rw [Nat.pow_add]; exact Nat.mul_lt_mul_of_pos_right h1 (Nat.pow_pos (by omega))
    exact Nat.le_trans (blen_le_of_lt h2) (by omega)
  have C1 := Lib.hid (fun W (h : Bg W nb ao n ca (A : Int)) => (show Calls Tryz.prog 153 #[.agg #[.bool nb, .slice ao n ca], .int .i64 (k : Int)] W fun e w' => ∃ nr ro l cr, e = .returned (.agg #[.bool nr, .slice ro l cr]) ∧ Bn w' nr ro l cr ((A * 2 ^ k : Nat) : Int) ∧ Ext W w' from by
    rw [Int.natCast_mul, Int.natCast_pow]
    exact (refShift_up nb ao n ca (A : Int) k W h (by omega)).mono fun r w' ⟨nr, ro, l, cr, h1, h2, _, h4⟩ => ⟨nr, ro, l, cr, h1, h2, h4⟩))
  have CA := Lib.hid (fun W (h : Bg W nb ao n ca (A : Int)) => show Calls Tryz.prog 150 #[.agg #[.bool nb, .slice ao n ca]] W fun e w' => e = .returned (.int .i64 ((blen A : Nat) : Int)) ∧ Ext W w' from refBitLen_any nb ao n ca (A : Int) W h)
  have CC := Lib.hid (fun W (h : Bg W mb bo m cb (C : Int)) => show Calls Tryz.prog 150 #[.agg #[.bool mb, .slice bo m cb]] W fun e w' => e = .returned (.int .i64 ((blen C : Nat) : Int)) ∧ Ext W w' from refBitLen_any mb bo m cb (C : Int) W h)
  have HM := Lib.hid (fun (W : World) (sn : Bool) (so : Option Addr) (sl sc : Nat) (h : Bn W sn so sl sc ((A * 2 ^ k : Nat) : Int)) => show sl ≤ 100000000 from Nat.le_trans (bn_len h (by rw [Int.natAbs_natCast]; omega)) (by omega))
  have hbM := Lib.hid hM
  clear hk hM
  generalize A * 2 ^ k = M at *
  have H0 := Lib.hid h0; clear h0
  go_enter Tryz.func92, Tryz.ntmps92
  go_upto_region 1 with fail
  obtain ⟨W, hW, hB, hx, hy, hD, hz⟩ := boxes2 w nb ao n ca mb bo m cb
  rw [← hW]
  clear hW
  have ha := ha.below hB
  have hb := hb.below hB
  generalize hBe : w.heap.size = B at *
  have HBe := Lib.hid hBe; clear hBe
  have HC := Lib.hid (show ∀ wx, Ext W wx → (wx.cell? ⟨B, 0, none⟩ = some (.bool nb) ∧ wx.cell? ⟨B, 1, none⟩ = some (.slice ao n ca)) ∧ (wx.cell? ⟨B + 1, 0, none⟩ = some (.bool mb) ∧ wx.cell? ⟨B + 1, 1, none⟩ = some (.slice bo m cb)) from fun wx h => ⟨⟨(hx.below h).c0, (hx.below h).c1⟩, (hy.below h).c0, (hy.below h).c1⟩)
  have hn0 := ha.small
  have hm0 := hb.small
  have st : Ext W W.drew := (Below.refl _ _).drew
  obtain ⟨⟨k0, k1⟩, l0, l1⟩ := HC.out W (Ext.refl W)
  have CA := Lib.hid (fun W' (hE : Ext W W') => CA.out W' (ha.below hE))
  have CC := Lib.hid (fun W' (hE : Ext W W') => CC.out W' (hb.below hE))
  have hw1 : IntKind.i64.wrap ((p : Int) + 2) = (p : Int) + 2 := IntWalk.i64_in _ ⟨by omega, by omega⟩
  have hw2 : IntKind.i64.wrap ((p : Int) + 2 + (blen C : Int)) = (p : Int) + 2 + (blen C : Int) := IntWalk.i64_in _ ⟨by omega, by omega⟩
  have hw3 : IntKind.i64.wrap ((p : Int) + 2 + (blen C : Int) - (blen A : Int)) = (p : Int) + 2 + (blen C : Int) - (blen A : Int) := IntWalk.i64_in _ ⟨by omega, by omega⟩
  go_cut [9] from 10 (fun s wx => s = .int .i64 (k : Int) ∧ Ext W wx)
  case first =>
    go_region_held3 (fun wx => (wx.cell? ⟨B, 0, none⟩ = some (.bool nb) ∧ wx.cell? ⟨B, 1, none⟩ = some (.slice ao n ca)) ∧ (wx.cell? ⟨B + 1, 0, none⟩ = some (.bool mb) ∧ wx.cell? ⟨B + 1, 1, none⟩ = some (.slice bo m cb)))
      (first | exact HC.out _ (by first | assumption | exact Ext.refl _ | exact ext_allocB2 (by assumption) _ | exact ext_adB _ _))
      (first
        | (go_at_call 150; with_reducible refine (CC.out _ (by first | assumption | exact Ext.refl _ | exact ext_allocB2 (by assumption) _ | exact ext_adB _ _)).mono ?_; rintro e w1 ⟨rfl, hv1⟩; have ex1 : Ext W w1 := Ext.trans (by first | assumption | exact Ext.refl _ | exact ext_allocB2 (by assumption) _ | exact ext_adB _ _) hv1)
        | (go_at_call 150; with_reducible refine (CA.out _ (by first | assumption | exact Ext.refl _ | exact ext_allocB2 (by assumption) _ | exact ext_adB _ _)).mono ?_; rintro e w2 ⟨rfl, hv2⟩; have ex2 : Ext W w2 := Ext.trans (by first | assumption | exact Ext.refl _ | exact ext_allocB2 (by assumption) _ | exact ext_adB _ _) hv2))
    all_goals
      go_wp2
      go_meet
    all_goals
      exact ⟨by rw [← HMX.out], ex2⟩
  case rest =>
    obtain ⟨rfl, hE⟩ := hcut
    obtain ⟨V, hV⟩ : ∃ V, V = wc := ⟨wc, rfl⟩
    subst hV
    have ha := ha.below hE
    have hb := hb.below hE
    have hx := hx.below hE
    have hy := hy.below hE
    have hD := hD.below hE
    have hBV : Below B w V := Below.trans hB (Below.mono hE (by omega))
    have hzV : B + 3 ≤ V.heap.size := by have := Below.size hE; omega
    clear hw1 hw2 hw3 k0 k1 l0 l1 st hE hB hz HC HMX CA CC
    have HC := Lib.hid (show ∀ wx, Ext V wx → (wx.cell? ⟨B, 0, none⟩ = some (.bool nb) ∧ wx.cell? ⟨B, 1, none⟩ = some (.slice ao n ca)) ∧ (wx.cell? ⟨B + 1, 0, none⟩ = some (.bool mb) ∧ wx.cell? ⟨B + 1, 1, none⟩ = some (.slice bo m cb)) from fun wx h => ⟨⟨(hx.below h).c0, (hx.below h).c1⟩, (hy.below h).c0, (hy.below h).c1⟩)
    have st : Ext V V.drew := (Below.refl _ _).drew
    obtain ⟨⟨k0, k1⟩, l0, l1⟩ := HC.out V (Ext.refl V)
    have C1 := Lib.hid (fun W' (hE : Ext V W') => C1.out W' (ha.below hE))
    have hD0 := hD.lt
    go_upto_region 2 with fail
    go_cut [10] from 20 (fun s wx => ∃ G qn qo qk qc rn ro rk rc, s = .pointer (some ⟨G, 0, none⟩) ∧ V.heap.size ≤ G ∧ QR w B (B + 1 + 1) G qn qo qk qc rn ro rk rc ((M / C : Nat) : Int) ((M % C : Nat) : Int) wx)
    case first =>
      go_region_held3 (fun wx => (wx.cell? ⟨B, 0, none⟩ = some (.bool nb) ∧ wx.cell? ⟨B, 1, none⟩ = some (.slice ao n ca)) ∧ (wx.cell? ⟨B + 1, 0, none⟩ = some (.bool mb) ∧ wx.cell? ⟨B + 1, 1, none⟩ = some (.slice bo m cb)))
        ((refine ⟨?_, ?_⟩; ((repeat (first | with_reducible refine bcells_drew ?_ | with_reducible refine bcells_alloc ?_ | with_reducible refine bcells_stored (by omega) ?_)); exact (HC.out _ (by first | assumption | exact Ext.refl _ | exact ext_allocB2 (by assumption) _ | exact ext_adB _ _)).1); ((repeat (first | with_reducible refine bcells_drew ?_ | with_reducible refine bcells_alloc ?_ | with_reducible refine bcells_stored (by omega) ?_)); exact (HC.out _ (by first | assumption | exact Ext.refl _ | exact ext_allocB2 (by assumption) _ | exact ext_adB _ _)).2)))
        (first
          | (go_at_call 153; with_reducible refine (C1.out _ (by first | assumption | exact Ext.refl _ | exact ext_allocB2 (by assumption) _ | exact ext_adB _ _)).mono ?_; rintro e w1 ⟨sn, so, sl, sc, rfl, h1, hv1⟩; have ex1 : Ext V w1 := Ext.trans (by first | assumption | exact Ext.refl _ | exact ext_allocB2 (by assumption) _ | exact ext_adB _ _) hv1; (first | (have bz := bbox_in1d (w := V) hv1; have bG : V.heap.size ≤ V.heap.size := Nat.le_refl _) | (have bz := bbox_in1 (w := V) hv1; have bG : V.heap.size ≤ V.heap.size := Nat.le_refl _) | skip))
          | (go_at_call 159; have ep : Ext V w1 := ex1; refine (refDivMod_pos M C sn mb so bo sl m sc cb _ (by first | exact bn_bg_of h1 (by rw [Int.natAbs_natCast]; have := hbM.out; omega) | exact bn_bg_of (h1.below (ext_allocB _ _)) (by rw [Int.natAbs_natCast]; have := hbM.out; omega)) (hb.below (by first | assumption | exact Ext.refl _ | exact ext_allocB2 (by assumption) _ | exact ext_adB _ _)) (HM.out _ _ _ _ _ h1) H0.out).mono ?_; rintro e w2 ⟨qn, qo, qk, qc, rn, ro, rk, rc, rfl, hq, hr, hv2⟩; have ex2 : Ext V w2 := Ext.trans (by first | assumption | exact Ext.refl _ | exact ext_allocB2 (by assumption) _ | exact ext_adB _ _) hv2; (first | (have bz := bz.below hv2; have zl := bz.lt; have z0 := bz.c0; have z1 := bz.c1; have z2 := bz.f 0; have z3 := bz.f 1) | (have bz := bbox_in1 (w := w1) hv2; have bG : V.heap.size ≤ w1.heap.size := Below.size ex1; have zl := bz.lt; have z0 := bz.c0; have z1 := bz.c1; have z2 := bz.f 0; have z3 := bz.f 1) | skip); have fD := hD.below ex2; have dl := fD.lt; have d0 := fD.c0; have d1 := fD.c1; have d2 := fD.f 0; have d3 := fD.f 1; have hB2 : Below B w w2 := Below.trans hBV (Below.mono ex2 (by omega)); have sz2 : V.heap.size ≤ w2.heap.size := Below.size ex2))
      all_goals
        clear d0 d1 d2 d3
        try clear z0 z1 z2 z3
        go_wp2
        go_meet
      all_goals
        refine ⟨_, qn, qo, qk, qc, rn, ro, rk, rc, rfl, ?_⟩
        first
          | exact ⟨bG, qr_two fD bz (by omega) (by omega) (by omega) hq hr hB2⟩
          | exact ⟨bG, qr_two' fD bz (by omega) (by omega) (by omega) hq hr hB2⟩
          | exact ⟨sz2, qr_new fD (by omega) (by omega) hq hr hB2⟩
    case rest =>
      obtain ⟨G, qn, qo, qk, qc, rn, ro, rk, rc, rfl, hG, hD2, hG2, hq, hr, hB2⟩ := hcut
      obtain ⟨X, hX⟩ : ∃ X, X = wc := ⟨wc, rfl⟩
      subst hX
      have hDG : B + 1 + 1 ≠ G := by omega
      have hDG2 : ¬ B + 1 + 1 = G := hDG
      have hDG3 : ¬ G = B + 1 + 1 := Ne.symm hDG
      have hrl : rk ≤ 1000000000 := by
        have h2 : M % C ≤ C := Nat.le_of_lt (Nat.mod_lt _ (Nat.pos_of_ne_zero H0.out))
        have h3 : blen (M % C) ≤ 1000000 := Nat.le_trans (blen_le_of_lt (Nat.lt_of_le_of_lt h2 (blen_lt C))) (by omega)
        exact Nat.le_trans (bn_len hr (by rw [Int.natAbs_natCast]; exact h3)) (by omega)
      obtain ⟨sg, hsg⟩ : ∃ sg, sgn3 ((M % C : Nat) : Int) 0 = sg := ⟨_, rfl⟩
      have hsb : (sg != 0) = decide (M % C ≠ 0) := by
        rw [show (sg != 0) = decide (sg ≠ 0) from by by_cases h : sg = 0 <;> simp [h], ← hsg]
        unfold sgn3
        apply decide_eq_decide.2
        rw [if_neg (by omega)]
        split <;> omega
      have CS := Lib.hid (fun W' (hE : Ext X W') => show Calls Tryz.prog 87 #[.agg #[.bool rn, .slice ro rk rc]] W' fun e w' => e = .returned (.int .i64 sg) ∧ Ext W' w' from hsg ▸ refSign_any _ _ _ _ _ W' ((hr.bg hrl).below hE))
      have HSB := Lib.hid hsb
      have HC := Lib.hid (show ∀ wx, Ext X wx → (wx.cell? ⟨B + 1 + 1, 0, none⟩ = some (.bool qn) ∧ wx.cell? ⟨B + 1 + 1, 1, none⟩ = some (.slice qo qk qc)) ∧ (wx.cell? ⟨G, 0, none⟩ = some (.bool rn) ∧ wx.cell? ⟨G, 1, none⟩ = some (.slice ro rk rc)) from fun wx h => ⟨⟨(hD2.below h).c0, (hD2.below h).c1⟩, (hG2.below h).c0, (hG2.below h).c1⟩)
      have HS := Lib.hid (show ∀ wx, Ext X wx → (fun wx => (wx.cell? ⟨B + 1 + 1, 0, none⟩ = some (.bool qn) ∧ wx.cell? ⟨B + 1 + 1, 1, none⟩ = some (.slice qo qk qc)) ∧ (wx.cell? ⟨G, 0, none⟩ = some (.bool rn) ∧ wx.cell? ⟨G, 1, none⟩ = some (.slice ro rk rc))) ((wx.setCell ⟨B + 1 + 1, 0, none⟩ (.bool qn)).setCell ⟨B + 1 + 1, 1, none⟩ (.slice qo qk qc)) from fun wx h => ⟨⟨((hD2.below h).stored qn qo qk qc).c0, ((hD2.below h).stored qn qo qk qc).c1⟩, bcells_stored hDG ⟨(hG2.below h).c0, (hG2.below h).c1⟩⟩)
      clear hsg hsb hr hG2
      have stx : Ext X X.drew := (Below.refl _ _).drew
      obtain ⟨⟨k0, k1⟩, l0, l1⟩ := HC.out X (Ext.refl X)
      have hwk : IntKind.i64.wrap (-(k : Int)) = -(k : Int) := IntWalk.i64_in _ ⟨by omega, by omega⟩
      go_upto_region 3 with fail
      go_region_held3 (fun wx => (wx.cell? ⟨B + 1 + 1, 0, none⟩ = some (.bool qn) ∧ wx.cell? ⟨B + 1 + 1, 1, none⟩ = some (.slice qo qk qc)) ∧ (wx.cell? ⟨G, 0, none⟩ = some (.bool rn) ∧ wx.cell? ⟨G, 1, none⟩ = some (.slice ro rk rc)))
        (first | exact HC.out _ (by first | assumption | exact Ext.refl _ | exact ext_allocB2 (by assumption) _ | exact ext_adB _ _) | exact HS.out _ (by first | assumption | exact Ext.refl _ | exact ext_allocB2 (by assumption) _ | exact ext_adB _ _))
        (first | (go_at_call 87; refine (CS.out _ stx).mono ?_; rintro e w3 ⟨rfl, hv3⟩; have ex3 : Ext X w3 := Ext.trans stx hv3; have fD := hD2.below ex3; have d0 := fD.c0; have d1 := fD.c1; have d2 := fD.f 0; have d3 := fD.f 1))
      all_goals
        have hst := fD.stored qn qo qk qc
        have z0 := hst.c0
        have z1 := hst.c1
        have HRES := Lib.hid (And.intro (Bn.only_bx' (hq.below ex3) fD (only_set2 w3 (B + 1 + 1) (.bool qn) (.slice qo qk qc))) (Below.trans (Below.trans hB2 (Below.mono ex3 (by have := hD2.lt; omega))) ((only_set2 w3 (B + 1 + 1) (.bool qn) (.slice qo qk qc)).below (show B ≤ B + 1 + 1 by omega))))
        clear hst d0 d1 d2 d3
        go_wp2
        refine bodyPost_ret (v := .tuple #[.agg #[.bool qn, .slice qo qk qc], .int .i64 (-(k : Int)), .bool (sg != 0)]) (by simp [results, Tryz.results92, go_sem, z0, z1]) rfl ⟨qn, qo, qk, qc, by rw [HSB.out], HRES.out.1, ?_⟩
        show Below _ _ _
        rw [HBe.out]
        exact HRES.out.2
end Go.Proofs.YtolghagbpnjpgaaGreatDoor

namespace Go.Proofs.YtolghagbpnjpgaaGreatDoor
open Go Go.RowKit

theorem bn_ext {w w' : World} {nb : Bool} {ao : Option Addr} {n ca : Nat} {x : Int} (h : Bn w nb ao n ca x) (hE : Ext w w') : Bn w' nb ao n ca x := h.below hE
theorem ext_over {w w' : World} {o : Obj} (hE : Ext (w.alloc o) w') : Ext w w' := Ext.trans (ext_allocB _ _) hE
end Go.Proofs.YtolghagbpnjpgaaGreatDoor
