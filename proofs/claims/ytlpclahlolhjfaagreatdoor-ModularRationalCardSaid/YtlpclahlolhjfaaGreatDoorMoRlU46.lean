import Derived.Test.YtlpclahlolhjfaaGreatDoorMoRlU39
import Derived.Test.YtlpclahlolhjfaaGreatDoorMoRlU30
import Derived.Test.YtlpclahlolhjfaaGreatDoorMoRlU21
import Derived.Test.YtlpclahlolhjfaaGreatDoorMoRlU45
import Derived.Test.YtlpclahlolhjfaaGreatDoorMoRlU28
import Derived.Test.YtlpclahlolhjfaaGreatDoorMoRlU13
namespace Go.Proofs.YtlpclahlolhjfaaGreatDoor
open Go Go.RowKit

theorem three_injR {a a' b b' : Int} {c c' : Bool} (h : (a, b, c) = (a', b', c')) : a = a' ∧ b = b' ∧ c = c' := ⟨congrArg Prod.fst h, congrArg (fun x => x.2.1) h, congrArg (fun x => x.2.2) h⟩
theorem gcd_ltR {a b K : Nat} (ha : a < K) (hb : b < K) : Nat.gcd a b < K := by
  rcases Nat.eq_zero_or_pos a with rfl | h
  · rw [Nat.gcd_zero_left]; exact hb
  · exact Nat.lt_of_le_of_lt (Nat.gcd_le_left b h) ha
theorem pow_far {a : Nat} (N : Nat) (h : a < 4294967296 ^ 20) (hN : 20 ≤ N) : a < 4294967296 ^ N := Nat.lt_of_lt_of_le h (Nat.pow_le_pow_right (by decide) hN)
/-- twice the square of a number within a bound of limbs -/
theorem square_limbs {w : World} {nb : Bool} {ao : Option Addr} {n ca : Nat} {x : Int} (h : Bn w nb ao n ca (x * x)) (hx : x.natAbs < 4294967296 ^ 20) : n ≤ 40 := few_limbs h (abs_mul (N := 20) (M := 20) hx hx)
theorem twice_limbs {w : World} {nb : Bool} {ao : Option Addr} {n ca : Nat} {x : Int} (h : Bn w nb ao n ca (x * x * 2 ^ 1)) (hx : x.natAbs < 4294967296 ^ 20) : n ≤ 41 := few_limbs h (abs_mul (N := 40) (M := 1) (abs_mul (N := 20) (M := 20) hx hx) (by decide))
theorem twice_sgn {x M c : Int} (h : sgn3 (x * x * 2 ^ 1) M = c) : (M < 2 * (x * x) → c = 1) ∧ (¬ M < 2 * (x * x) → ¬ 0 < c) := by
  have e2 : x * x * 2 ^ 1 = 2 * (x * x) := by rw [show (2 : Int) ^ 1 = 2 from rfl]; omega
  rw [← h, e2]
  unfold sgn3
  constructor <;> intro h <;> (repeat split) <;> omega

set_option maxRecDepth 100000 in
set_option maxHeartbeats 8000000 in
theorem refRational_any (xn mn : Bool) (xo mo : Option Addr) (xk xc mk mc : Nat) (X M A0 D0 : Int) (ok : Bool) (w : World) (hX : Bg w xn xo xk xc X) (hM : Bg w mn mo mk mc M) (hxk : xk ≤ 40) (hmk : mk ≤ 20) (hMl : M.natAbs < 4294967296 ^ 20) (hO : ratOut X M = (A0, D0, ok)) :
    Calls Tryz.prog 14 #[.agg #[.bool xn, .slice xo xk xc], .agg #[.bool mn, .slice mo mk mc]] w fun e w' => ∃ an ao ak ac dn dp dk dc, e = .returned (.tuple #[.agg #[.bool an, .slice ao ak ac], .agg #[.bool dn, .slice dp dk dc], .bool ok]) ∧
      Bn w' an ao ak ac A0 ∧ Bn w' dn dp dk dc D0 ∧ Ext w w' := by
  have HO := Lib.hid hO
  have HML := Lib.hid hMl
  clear hO hMl
  go_enter Tryz.func14, Tryz.ntmps14
  go_upto_region 1 with fail
  obtain ⟨W, hW, hE0, hx, hm, hz1, hz2, hz⟩ := boxes_four w xn xo xk xc mn mo mk mc
  rw [← hW]
  clear hW
  have HX := Lib.hid (hX.below hE0)
  have HMW := Lib.hid hM
  have HM := Lib.hid (hM.below hE0)
  generalize hBe : w.heap.size = B at *
  have HBE := Lib.hid hBe
  have HBel := Lib.hid (show Below B w W from hBe ▸ hE0)
  have HBz := Lib.hid (show B + 4 ≤ W.heap.size by omega)
  clear hBe hX hM hE0 hz
  obtain ⟨s, hs⟩ : ∃ s, sgn3 M 0 = s := ⟨_, rfl⟩
  have CS := Lib.hid (refSign_any mn mo mk mc M W HM.out)
  rw [hs] at CS
  have k0 := hm.c0
  have k1 := hm.c1
  go_wp2_with fail
  refine CS.out.mono ?_
  rintro e w1 ⟨rfl, hE⟩
  have HX := Lib.hid (HX.out.below hE)
  have HM := Lib.hid (HM.out.below hE)
  have hx := hx.below hE
  have hm := hm.below hE
  have hz1 := hz1.below hE
  have hz2 := hz2.below hE
  have HBel := Lib.hid (HBel.out.trans (Below.mono hE (by have := HBz.out; omega)))
  have HBz' := Lib.hid (Nat.le_trans HBz.out (Below.size hE))
  clear HBz
  have HBz := Lib.hid HBz'.out
  clear HBz'
  clear k0 k1 CS hE
  by_cases hM0 : M ≤ 0
  · have hs0 : s ≤ 0 := by rw [← hs]; unfold sgn3; split <;> (try split) <;> omega
    have h1 := HO.out
    rw [ratOut_none hM0] at h1
    obtain ⟨rfl, rfl, rfl⟩ := three_injR h1
    clear hs h1 hM0
    obtain ⟨y1, y2, y3, y4, y5⟩ := two_set (xn := false) (xo := none) (xk := 0) (xc := 0) (yn := false) (yo := none) (yk := 0) (yc := 0) hz1 hz2 (by omega)
    have z0 := y1.c0
    have z1 := y1.c1
    have z2 := y2.c0
    have z3 := y2.c1
    have HF := Lib.hid (Below.trans HBel.out (y3 B (by omega) (by omega)))
    have p0 := hz1.c0
    have p1 := hz1.c1
    have p2 := hz1.f 0
    have p3 := hz1.f 1
    have q0 := hz2.c0
    have q1 := hz2.c1
    have q2 := hz2.f 0
    have q3 := hz2.f 1
    clear y1 y2 y3 y4 y5
    go_wp2
    refine bodyPost_ret (v := .tuple #[.agg #[.bool false, .slice none 0 0], .agg #[.bool false, .slice none 0 0], .bool false]) (by simp [results, Tryz.results14, go_sem, z0, z1, z2, z3]) rfl ⟨false, none, 0, 0, false, none, 0, 0, rfl, zero_bn' _, zero_bn' _, by show Below _ _ _; rw [HBE.out]; exact HF.out⟩
  · have hs0 : ¬ s ≤ 0 := by rw [← hs]; unfold sgn3; rw [if_neg (by omega), if_pos (by omega)]; omega
    have HM0 := Lib.hid (show 0 < M by omega)
    clear hs hM0
    have k0 := hx.c0
    have k1 := hx.c1
    have l0 := hm.c0
    have l1 := hm.c1
    go_wp2_with fail
    refine (refDivMod_any xn mn xo xk xc mo mk mc X M w1 HX.out HM.out (by have := HM0.out; omega) (by omega)).mono ?_
    rintro e w2 ⟨qn, qo, qk, qc, rn, ro, rk, rc, rfl, -, hr, hE⟩
    have HM := Lib.hid (HM.out.below hE)
    have hx := hx.below hE
    have hm := hm.below hE
    have hz1 := hz1.below hE
    have hz2 := hz2.below hE
    have HBel := Lib.hid (HBel.out.trans (Below.mono hE (by have := HBz.out; omega)))
    have HBz' := Lib.hid (Nat.le_trans HBz.out (Below.size hE))
    clear HBz
    have HBz := Lib.hid HBz'.out
    clear HBz'
    have HST := Lib.hid (EA.start (x := X) HM0.out)
    have HST0 := Lib.hid HST.out
    obtain ⟨⟨R1, R2⟩, hR⟩ : ∃ R, eu (M.toNat + 1) M M (X % M) 0 1 = R := ⟨_, rfl⟩
    have HR := Lib.hid hR
    have HXM := Lib.hid (show 0 ≤ X % M ∧ X % M < M from ⟨Int.emod_nonneg _ (by have := HM0.out; omega), Int.emod_lt_of_pos _ HM0.out⟩)
    have HRO := Lib.hid (show eu (M.toNat + 1) M M (X % M) 0 1 = (R1, R2) from hR)
    obtain ⟨b0, hb0⟩ := Int.eq_ofNat_of_zero_le HXM.out.1
    rw [hb0] at hr HR HST HXM
    clear k0 k1 l0 l1 hE hR hb0 HX
    go_upto_region 4 with fail
    obtain ⟨V, hV, hE, hxq, hxr⟩ := box_pair w2 qn qo qk qc rn ro rk rc
    rw [← hV]
    clear hV
    have HM := Lib.hid (HM.out.below hE)
    have hx := hx.below hE
    have hm := hm.below hE
    have hz1 := hz1.below hE
    have hz2 := hz2.below hE
    have hr := hr.below hE
    have hD4 : B + 4 ≤ w2.heap.size := HBz.out
    have HBel := Lib.hid (HBel.out.trans (Below.mono hE (by have := HBz.out; omega)))
    have HBz' := Lib.hid (Nat.le_trans HBz.out (Below.size hE))
    clear HBz
    have HBz := Lib.hid HBz'.out
    clear HBz'
    generalize w2.heap.size = D at *
    clear hE hxq hx
    have k0 := hxr.c0
    have k1 := hxr.c1
    have l0 := hm.c0
    have l1 := hm.c1
    go_cut [9, 10] from 26 (fun p q wx => ∃ ga gb, p = .pointer (some ⟨ga, 0, none⟩) ∧ q = .pointer (some ⟨gb, 0, none⟩) ∧ Box wx ga mn mo mk mc ∧ Box wx gb rn ro rk rc ∧ RSt V wx [] ∧ V.heap.size ≤ ga ∧ V.heap.size ≤ gb ∧ ga ≠ gb ∧ ga < V.heap.size + 2 ∧ gb < V.heap.size + 2)
    case first =>
      have hst : RSt V V [] := ⟨Ext.refl V, fun p hp => by cases hp⟩
      have std := hst.drew
      have HC := Lib.hid (show ∀ wx, Ext V wx → (wx.cell? ⟨B + 1, 0, none⟩ = some (.bool mn) ∧ wx.cell? ⟨B + 1, 1, none⟩ = some (.slice mo mk mc)) ∧ (wx.cell? ⟨D + 1, 0, none⟩ = some (.bool rn) ∧ wx.cell? ⟨D + 1, 1, none⟩ = some (.slice ro rk rc)) from fun wx h => ⟨⟨(hm.below h).c0, (hm.below h).c1⟩, ⟨(hxr.below h).c0, (hxr.below h).c1⟩⟩)
      go_region_held3 (fun wx => (wx.cell? ⟨B + 1, 0, none⟩ = some (.bool mn) ∧ wx.cell? ⟨B + 1, 1, none⟩ = some (.slice mo mk mc)) ∧ (wx.cell? ⟨D + 1, 0, none⟩ = some (.bool rn) ∧ wx.cell? ⟨D + 1, 1, none⟩ = some (.slice ro rk rc)))
        ((refine ⟨?_, ?_⟩; ((repeat (first | with_reducible refine bcells_drew ?_ | with_reducible refine bcells_alloc ?_ | with_reducible refine bcells_stored (by omega) ?_)); exact (HC.out _ (by first | with_reducible exact Ext.refl _ | with_reducible exact RSt.ext (W := V) (by with_reducible assumption))).1); ((repeat (first | with_reducible refine bcells_drew ?_ | with_reducible refine bcells_alloc ?_ | with_reducible refine bcells_stored (by omega) ?_)); exact (HC.out _ (by first | with_reducible exact Ext.refl _ | with_reducible exact RSt.ext (W := V) (by with_reducible assumption))).2)))
        (fail)
      all_goals
        go_wp2
        go_meet
      all_goals
        refine ⟨_, _, rfl, rfl, ?_⟩
      · have F := bfin_new (xn := mn) (xo := mo) (xk := mk) (xc := mc) (yn := rn) (yo := ro) (yk := rk) (yc := rc) hst
        exact ⟨F.1, F.2.1, F.2.2.drew, by omega, by omega, by omega, by omega, by omega⟩
      · have F := bfin_new (xn := rn) (xo := ro) (xk := rk) (xc := rc) (yn := mn) (yo := mo) (yk := mk) (yc := mc) hst
        exact ⟨F.2.1, F.1, F.2.2.drew, by omega, by omega, by omega, by omega, by omega⟩
    case rest =>
      obtain ⟨ga, gb, rfl, rfl, hga, hgb, hst, ha1, hb1, hab, hal, hbl⟩ := hcut
      obtain ⟨V2, hV2⟩ : ∃ V2, V2 = wc := ⟨wc, rfl⟩
      subst hV2
      have hE := hst.ext
      have HM := Lib.hid (HM.out.below hE)
      have hm := hm.below hE
      have hz1 := hz1.below hE
      have hz2 := hz2.below hE
      have hr := hr.below hE
      have HBel := Lib.hid (HBel.out.trans (Below.mono hE (by have := HBz.out; omega)))
      have HBz' := Lib.hid (Nat.le_trans HBz.out (Below.size hE))
      clear HBz
      have HBz := Lib.hid HBz'.out
      clear HBz'
      have hDV := hxr.lt
      have hDB : B + 4 ≤ ga ∧ B + 4 ≤ gb := by omega
      clear hDV
      clear hst hE hxr k0 k1 l0 l1 ha1 hb1 hal hbl
      go_wp2_with fail
      refine (refFromInt_any 1 V2 (by omega) (by omega)).mono ?_
      rintro e w4 ⟨vn, vo, vk, vc, rfl, ht, hE⟩
      have HM := Lib.hid (HM.out.below hE)
      have hm := hm.below hE
      have hz1 := hz1.below hE
      have hz2 := hz2.below hE
      have hr := hr.below hE
      have hga := hga.below hE
      have hgb := hgb.below hE
      have HBel := Lib.hid (HBel.out.trans (Below.mono hE (by have := HBz.out; omega)))
      have HBz' := Lib.hid (Nat.le_trans HBz.out (Below.size hE))
      clear HBz
      have HBz := Lib.hid HBz'.out
      clear HBz'
      have hord : ga < w4.heap.size ∧ gb < w4.heap.size := ⟨hga.lt, hgb.lt⟩
      clear hE
      go_upto_block 0 with fail
      obtain ⟨V5, hV5, hE, hgs, hgt⟩ := box_pair w4 false none 0 0 vn vo vk vc
      rw [← hV5]
      clear hV5
      have HM := Lib.hid (HM.out.below hE)
      have hm := hm.below hE
      have hz1 := hz1.below hE
      have hz2 := hz2.below hE
      have hr := hr.below hE
      have hga := hga.below hE
      have hgb := hgb.below hE
      have ht := ht.below hE
      have HBel := Lib.hid (HBel.out.trans (Below.mono hE (by have := HBz.out; omega)))
      have HBz' := Lib.hid (Nat.le_trans HBz.out (Below.size hE))
      clear HBz
      have HBz := Lib.hid HBz'.out
      clear HBz'
      generalize w4.heap.size = gs at *
      have HGA := Lib.hid (show GA V5 ga M from ⟨_, _, _, _, hga, HM.out, by omega⟩)
      have HGS := Lib.hid (show NA V5 gs 0 from ⟨_, _, _, _, hgs, zero_bn' _⟩)
      have HGB := Lib.hid (show NA V5 gb (b0 : Int) from ⟨_, _, _, _, hgb, hr⟩)
      have HGT := Lib.hid (show NA V5 (gs + 1) 1 from ⟨_, _, _, _, hgt, ht⟩)
      have HMX := Lib.hid hm
      have HZ1 := Lib.hid hz1
      have HZ2 := Lib.hid hz2
      clear hE hga hgb hgs hgt hr ht hm hz1 hz2 HM
      go_cut [13, 14] from 30 to 50 (fun _ _ wx => NA wx gb R1 ∧ NA wx (gs + 1) R2 ∧ (Box wx (B + 1) mn mo mk mc ∧ Box wx (B + 2) false none 0 0 ∧ Box wx (B + 3) false none 0 0) ∧ Below B w wx)
      case first =>
        go_wp2
        go_loopw [13, 14] (fun _ _ wr => ∃ (f b : Nat) (a s t : Int), GA wr ga a ∧ NA wr gs s ∧ NA wr gb (b : Int) ∧ NA wr (gs + 1) t ∧ (Box wr (B + 1) mn mo mk mc ∧ Box wr (B + 2) false none 0 0 ∧ Box wr (B + 3) false none 0 0) ∧ Hid (EA X M a (b : Int) s t ∧ (b : Int) < (f : Int) ∧ eu f M a (b : Int) s t = (R1, R2)) ∧ Below B w wr)
          (fun _ _ wr => numAt wr gb)
        case atStart => exact ⟨M.toNat + 1, b0, M, 0, 1, HGA.out, HGS.out, HGB.out, HGT.out, ⟨HMX.out, HZ1.out, HZ2.out⟩, Lib.hid ⟨HST.out, by have := HXM.out; omega, HR.out⟩, HBel.out⟩
        case round =>
          clear HGA HGB HGS HGT HMX HZ1 HZ2 HBel HBz
          obtain ⟨f, b, a, s, t, ⟨an, ao, ak, ac, hxa, hA, hak⟩, ⟨sn, so, sk, sc, hxs, hSn⟩, ⟨rn, ro, rk, rc, hxr, hRn⟩, ⟨vn, vo, vk, vc, hxt, hTn⟩, ⟨hbx, hz1, hz2⟩, HI, hB⟩ := hrel
          have HNUM := Lib.hid (numAt_is (w := wr) (g := gb) (x := b) ⟨rn, ro, rk, rc, hxr, hRn⟩)
          have hbM : -M ≤ (b : Int) ∧ (b : Int) ≤ M := by have := HI.out.1.b0; have := HI.out.1.ba; have := HI.out.1.am; omega
          have HBL := Lib.hid (show (b : Int).natAbs < 4294967296 ^ 20 from Nat.lt_of_le_of_lt (show (b : Int).natAbs ≤ M.natAbs by omega) HML.out)
          have hrl := within_limbs hRn HML.out hbM
          have htl := within_limbs hTn HML.out HI.out.1.tm
          have hsl := within_limbs hSn HML.out HI.out.1.sm
          have HBel := Lib.hid hB
          have HBz := Lib.hid (show B ≤ wr.heap.size from by rw [← HBE.out]; exact Below.size hB)
          have hEw : Ext w wr := by unfold Ext; rw [HBE.out]; exact hB
          have HMB := Lib.hid (HMW.out.below hEw)
          obtain ⟨c, hc⟩ : ∃ c, sgn3 ((b : Int) * (b : Int) * 2 ^ 1) M = c := ⟨_, rfl⟩
          have HCS := Lib.hid (twice_sgn hc)
          have CM := Lib.hid (fun wx (h : Ext wr wx) => refMul_any rn rn ro rk rc ro rk rc (b : Int) (b : Int) wx ((hRn.bg (by omega)).below h) ((hRn.bg (by omega)).below h))
          have CSH := Lib.hid (fun wx (h : Ext wr wx) en eo ek ec (he : Bn wx en eo ek ec ((b : Int) * (b : Int))) => refShift_up en eo ek ec ((b : Int) * (b : Int)) 1 wx (he.bg (Nat.le_trans (square_limbs he HBL.out) (by omega))) (by omega))
          have CC := Lib.hid (fun wx (h : Ext wr wx) en eo ek ec (he : Bn wx en eo ek ec ((b : Int) * (b : Int) * 2 ^ 1)) => refCmp_any en mn eo ek ec mo mk mc ((b : Int) * (b : Int) * 2 ^ 1) M wx (he.bg (Nat.le_trans (twice_limbs he HBL.out) (by omega))) (HMB.out.below h) (Nat.le_trans (twice_limbs he HBL.out) (by omega)) (by omega))
          rw [hc] at CC
          have HC := Lib.hid (show ∀ wx, Ext wr wx → (wx.cell? ⟨gb, 0, none⟩ = some (.bool rn) ∧ wx.cell? ⟨gb, 1, none⟩ = some (.slice ro rk rc)) ∧ (wx.cell? ⟨B + 1, 0, none⟩ = some (.bool mn) ∧ wx.cell? ⟨B + 1, 1, none⟩ = some (.slice mo mk mc)) from fun wx h => ⟨⟨(hxr.below h).c0, (hxr.below h).c1⟩, ⟨(hbx.below h).c0, (hbx.below h).c1⟩⟩)
          have stn : St wr wr [] := ⟨Ext.refl _, fun p hp => by cases hp⟩
          have std := stn.drew
          clear hB hEw hc hbM
          obtain ⟨⟨k0, k1⟩, l0, l1⟩ := HC.out wr (Ext.refl _)
          go_upto_region 6 with fail
          first | (go_region_held3 (fun wx => (wx.cell? ⟨gb, 0, none⟩ = some (.bool rn) ∧ wx.cell? ⟨gb, 1, none⟩ = some (.slice ro rk rc)) ∧ (wx.cell? ⟨B + 1, 0, none⟩ = some (.bool mn) ∧ wx.cell? ⟨B + 1, 1, none⟩ = some (.slice mo mk mc)))
            (first | exact HC.out _ (by exact St.ext (by with_reducible assumption)))
            (first
              | (go_at_call 36; refine (CM.out _ (by exact St.ext (by assumption))).mono ?_; rintro e wn ⟨en, eo, ek, ec, rfl, he, hwn⟩; have stn := St.step (W := wr) (by with_reducible assumption) hwn)
              | (go_at_call 38; refine (CSH.out _ (by exact St.ext (by assumption)) _ _ _ _ (by first | exact he | exact he.below (Below.refl _ _).drew)).mono ?_; rintro e wm ⟨fn, fo, fk, fc, rfl, hf, _, hwm⟩; have stm := St.step (W := wr) (by with_reducible assumption) hwm)
              | (go_at_call 37; refine (CC.out _ (by exact St.ext (by assumption)) _ _ _ _ (by first | exact hf | exact hf.below (Below.refl _ _).drew)).mono ?_; rintro e wq ⟨rfl, hwq⟩; have stq := St.step (W := wr) (by with_reducible assumption) hwq)
              )) | fail "r6"
          have hE := stq.ext
          have HBel := Lib.hid (HBel.out.trans (Below.mono hE HBz.out))
          have HBz := Lib.hid (Nat.le_trans HBz.out (Below.size hE))
          have hxa := hxa.below hE
          have hxs := hxs.below hE
          have hxr := hxr.below hE
          have hxt := hxt.below hE
          have hbx := hbx.below hE
          have hz1 := hz1.below hE
          have hz2 := hz2.below hE
          have hA := hA.below hE
          have hSn := hSn.below hE
          have hRn := hRn.below hE
          have hTn := hTn.below hE
          clear k0 k1 l0 l1 CC CM CSH HC std stn stm stq hE hwn hwm hwq he hf HMB
          obtain ⟨w3, hw3⟩ : ∃ w3, w3 = wq := ⟨wq, rfl⟩
          subst hw3
          by_cases hgo : M < 2 * ((b : Int) * (b : Int))
          · obtain rfl : c = 1 := HCS.out.1 (by omega)
            clear HCS
            have hEA := HI.out.1
            have hEAS := HI.out.1.step hgo
            have htm := hEA.tm
            have hsm := hEA.sm
            have hpos := hEA.pos hgo
            have ham := hEA.am
            have haz : 0 ≤ a := by have := hEA.b0; have := hEA.ba; omega
            have hqw := quo_within haz hpos ham
            obtain ⟨b', hb'⟩ := Int.eq_ofNat_of_zero_le hEAS.b0
            have hbb : (b' : Int) < (b : Int) := by have := hEAS.ba; omega
            have hel := hEA.ba
            obtain ⟨f2, rfl⟩ : ∃ f2, f = f2 + 1 := ⟨f - 1, by have := HI.out.2.1; omega⟩
            have HI2 := Lib.hid (show EA X M (b : Int) (b' : Int) t (s - a / (b : Int) * t) ∧ (b' : Int) < (f2 : Int) ∧ eu f2 M (b : Int) (b' : Int) t (s - a / (b : Int) * t) = (R1, R2) from by
              have h1 := HI.out.2.2
              rw [eu_go hgo, hb'] at h1
              rw [hb'] at hEAS
              exact ⟨hEAS, by have := HI.out.2.1; omega, h1⟩)
            obtain ⟨qv, hqv⟩ : ∃ qv, a / (b : Int) = qv := ⟨_, rfl⟩
            rw [hqv] at hqw HI2
            obtain ⟨nv, hnv⟩ : ∃ nv, s - qv * t = nv := ⟨_, rfl⟩
            rw [hnv] at HI2
            have HNV := Lib.hid hnv
            have hbz : (b : Int) ≠ 0 := by omega
            have g0 := hxa.c0
            have g1 := hxa.c1
            have k0 := hxr.c0
            have k1 := hxr.c1
            clear hEA hEAS hsm ham haz hel hgo hnv
            go_wp2_with fail
            refine (refDivMod_any an rn ao ak ac ro rk rc a b w3 hA (hRn.bg (by omega)) hbz (by omega)).mono ?_
            rw [hqv, hb']
            rintro e w4 ⟨qn, qo, qk, qc, un, uo, uk, uc, rfl, hq, hu, hE4⟩
            have HBel := Lib.hid (HBel.out.trans (Below.mono hE4 HBz.out))
            have HBz := Lib.hid (Nat.le_trans HBz.out (Below.size hE4))
            have hxa := hxa.below hE4
            have hxs := hxs.below hE4
            have hxr := hxr.below hE4
            have hxt := hxt.below hE4
            have hbx := hbx.below hE4
            have hz1 := hz1.below hE4
            have hz2 := hz2.below hE4
            have hA := hA.below hE4
            have hSn := hSn.below hE4
            have hRn := hRn.below hE4
            have hTn := hTn.below hE4
            clear g0 g1 k0 k1 hE4 hqv hb' hbz
            go_upto_region 8 with fail
            obtain ⟨W5, hW5, hE5, hxq, hxu⟩ := box_pair w4 qn qo qk qc un uo uk uc
            rw [← hW5]
            clear hW5
            have la := hxa.lt
            have ls := hxs.lt
            have lr := hxr.lt
            have lt' := hxt.lt
            have lb := hbx.lt
            have hxa := hxa.below hE5
            have hxs := hxs.below hE5
            have hxr := hxr.below hE5
            have hxt := hxt.below hE5
            have hbx := hbx.below hE5
            have hz1 := hz1.below hE5
            have hz2 := hz2.below hE5
            have hA := hA.below hE5
            have hSn := hSn.below hE5
            have hRn := hRn.below hE5
            have hTn := hTn.below hE5
            have hq := hq.below hE5
            have hu := hu.below hE5
            have HBel := Lib.hid (HBel.out.trans (Below.mono hE5 HBz.out))
            generalize w4.heap.size = D at *
            have hlq := within_limbs hq HML.out hqw
            clear hE5
            obtain ⟨y1, y2, y3, y4, y5⟩ := two_setd (xn := rn) (xo := ro) (xk := rk) (xc := rc) (yn := un) (yo := uo) (yk := uk) (yc := uc) hxa hxr (by omega)
            have HY := Lib.hid (And.intro y1 (And.intro y2 (And.intro y3 (And.intro y4 y5))))
            clear y1 y2 y3 y4 y5
            have k0 := hxr.c0
            have k1 := hxr.c1
            have k2 := hxr.f 0
            have k3 := hxr.f 1
            have l0 := hxa.c0
            have l1 := hxa.c1
            have l2 := hxa.f 0
            have l3 := hxa.f 1
            have t0 := hxu.c0
            have t1 := hxu.c1
            have n1 : ¬ gb = ga := by omega
            have n2 : ¬ ga = gb := (by omega)
            have n3 : ¬ ga = D + 1 := by omega
            have n4 : ¬ D + 1 = ga := by omega
            have n5 : ¬ gb = D + 1 := by omega
            have n6 : ¬ D + 1 = gb := by omega
            first | go_region | fail "r6"
            have z3 := Below.trans HBel.out (HY.out.2.2.1 B (by omega) (by omega))
            have HBel := Lib.hid z3
            have z1 := HY.out.1
            have z2 := HY.out.2.1
            have z4 := HY.out.2.2.2.1
            have z5 := HY.out.2.2.2.2
            have HXA := Lib.hid z1
            have HXR := Lib.hid z2
            have HXS := Lib.hid (z5 _ _ _ _ _ hxs (by omega) (by omega))
            have HXT := Lib.hid (z5 _ _ _ _ _ hxt (by omega) (by omega))
            have HXQ := Lib.hid (z5 _ _ _ _ _ hxq (by omega) (by omega))
            have HHBX := Lib.hid (z5 _ _ _ _ _ hbx (by omega) (by omega))
            have HHZ1 := Lib.hid (z5 _ _ _ _ _ hz1 (by omega) (by omega))
            have HHZ2 := Lib.hid (z5 _ _ _ _ _ hz2 (by omega) (by omega))
            have HRn := Lib.hid (bn_tr z4 hRn)
            have HSn := Lib.hid (bn_tr z4 hSn)
            have HTn := Lib.hid (bn_tr z4 hTn)
            have HU := Lib.hid (bn_tr z4 hu)
            have HQ := Lib.hid (bn_tr z4 hq)
            clear z1 z2 z3 z4 z5 hxa hxr hxs hxt hxq hxu hbx hz1 hz2 hRn hSn hTn hu hq hA HY k0 k1 k2 k3 l0 l1 l2 l3 t0 t1 n1 n2 n3 n4 n5 n6
            go_upto_region 9 with fail
            generalize ((((W5.setCell ⟨ga, 0, none⟩ (.bool rn)).setCell ⟨ga, 1, none⟩ (.slice ro rk rc)).setCell ⟨gb, 0, none⟩ (.bool un)).setCell ⟨gb, 1, none⟩ (.slice uo uk uc)).drew = V6 at *
            have HBz6 := Lib.hid (show B ≤ V6.heap.size by have := Below.size HBel.out; have := HBE.out; omega)
            have hxq := HXQ.out
            have hxs := HXS.out
            have hxt := HXT.out
            have q0 := hxq.c0
            have q1 := hxq.c1
            have j0 := hxs.c0
            have j1 := hxs.c1
            have i0 := hxt.c0
            have i1 := hxt.c1
            go_region_with (first
              | (go_at_call 36; refine (refMul_any _ _ _ _ _ _ _ _ qv t _ (by exact (HQ.out.bg (by omega)).below (by first | exact (Below.refl _ _).drew | exact Ext.refl _)) (by exact (HTn.out.bg (by omega)).below (by first | exact (Below.refl _ _).drew | exact Ext.refl _))).mono ?_; rintro e w5 ⟨mn', mo', mk', mc', rfl, hm, hw5⟩; have ex1 : Ext V6 w5 := Ext.trans (by first | exact (Below.refl _ _).drew | exact Ext.refl _) hw5; clear q0 q1 j0 j1 i0 i1; have c1 := HXS.out.below ex1; have j0 := c1.c0; have j1 := c1.c1; have c2 := HXT.out.below ex1; have i0 := c2.c0; have i1 := c2.c1)
              | (go_at_call 39; refine (refSub_any _ _ _ _ _ _ _ _ s (qv * t) _ (by exact (HSn.out.bg (by omega)).below ex1) (by exact hm.bg (Nat.le_trans (within_prod hm HML.out hqw htm) (by omega)))).mono ?_; rintro e w6 ⟨zn, zo, zk, zc, rfl, hz, hw6⟩; have ex2 : Ext V6 w6 := ex1.trans hw6; clear j0 j1 i0 i1; have c3 := HXS.out.below ex2; have j0 := c3.c0; have j1 := c3.c1; have j2 := c3.f 0; have j3 := c3.f 1; have c4 := HXT.out.below ex2; have i0 := c4.c0; have i1 := c4.c1; have i2 := c4.f 0; have i3 := c4.f 1))
            all_goals
              obtain ⟨y1, y2, y3, y4, y5⟩ := two_set (xn := vn) (xo := vo) (xk := vk) (xc := vc) (yn := zn) (yo := zo) (yk := zk) (yc := zc) c3 c4 (by omega)
              rw [HNV.out] at hz
              have hxr9 := y5 _ _ _ _ _ (HXR.out.below ex2) (by omega) (by omega)
              have hU9 := bn_tr y4 (HU.out.below ex2)
              have HALL := Lib.hid (show GA _ (ga) (b : Int) ∧ NA _ (gs) t ∧ NA _ (gb) (b' : Int) ∧ NA _ (gs + 1) nv ∧ (Box _ (B + 1) mn mo mk mc ∧ Box _ (B + 2) false none 0 0 ∧ Box _ (B + 3) false none 0 0) ∧ Below B w _ from ⟨⟨_, _, _, _, y5 _ _ _ _ _ (HXA.out.below ex2) (by omega) (by omega), (bn_tr y4 (HRn.out.below ex2)).bg (by omega), by omega⟩, ⟨_, _, _, _, y1, bn_tr y4 (HTn.out.below ex2)⟩, ⟨_, _, _, _, hxr9, hU9⟩, ⟨_, _, _, _, y2, bn_tr y4 hz⟩, ⟨y5 _ _ _ _ _ (HHBX.out.below ex2) (by omega) (by omega), y5 _ _ _ _ _ (HHZ1.out.below ex2) (by omega) (by omega), y5 _ _ _ _ _ (HHZ2.out.below ex2) (by omega) (by omega)⟩, Below.trans (Below.trans HBel.out (ex2.mono HBz6.out)) (y3 B (by omega) (by omega))⟩)
              have HV2 := Lib.hid (numAt_is (g := gb) (x := b') ⟨_, _, _, _, hxr9, hU9⟩)
              clear y1 y2 y3 y4 y5 hz hxr9 hU9 c1 c2 c3 c4 ex1 ex2 hm hw5 hw6 j0 j1 j2 j3 i0 i1 i2 i3 hxq hxs hxt
              go_wp2
              go_roundw
            any_goals (rw [HNUM.out, HV2.out]; omega)
            all_goals exact ⟨f2, b', (b : Int), t, nv, HALL.out.1, HALL.out.2.1, HALL.out.2.2.1, HALL.out.2.2.2.1, HALL.out.2.2.2.2.1, HI2, HALL.out.2.2.2.2.2⟩
          · have hc0 := HCS.out.2 (by omega)
            have hRR : ((b : Int), t) = (R1, R2) := by
              have h1 := HI.out.2.2
              obtain ⟨f2, rfl⟩ : ∃ f2, f = f2 + 1 := ⟨f - 1, by have := HI.out.2.1; omega⟩
              rwa [eu_stop hgo] at h1
            have hR1 : (b : Int) = R1 := congrArg Prod.fst hRR
            have hR2 : t = R2 := congrArg Prod.snd hRR
            have HF := Lib.hid (show NA w3 gb R1 ∧ NA w3 (gs + 1) R2 ∧ (Box w3 (B + 1) mn mo mk mc ∧ Box w3 (B + 2) false none 0 0 ∧ Box w3 (B + 3) false none 0 0) ∧ Below B w w3 from ⟨⟨_, _, _, _, hxr, hR1 ▸ hRn⟩, ⟨_, _, _, _, hxt, hR2 ▸ hTn⟩, ⟨hbx, hz1, hz2⟩, HBel.out⟩)
            clear hRR hR1 hR2 hgo hxa hxs hxr hxt hbx hz1 hz2 hA hSn hRn hTn HI HCS
            go_wp2
            go_meet
            exact HF.out
      case rest =>
        obtain ⟨⟨rn, ro, rk, rc, hxr, hRn⟩, ⟨vn, vo, vk, vc, hxt, hTn⟩, ⟨hbx, hz1, hz2⟩, hB⟩ := hcut
        obtain ⟨w3, hw3⟩ : ∃ w3, w3 = wc := ⟨wc, rfl⟩
        subst hw3
        have HBel := Lib.hid hB
        have HBz := Lib.hid (show B ≤ w3.heap.size by have := hz2.lt; omega)
        have HRO := Lib.hid HRO.out
        obtain ⟨a', s', hEA, -⟩ := eu_spec (M.toNat + 1) HST0.out (by have := Int.emod_lt_of_pos X HM0.out; have := HM0.out; omega)
        rw [HRO.out] at hEA
        have HRM := Lib.hid (show -M ≤ R1 ∧ R1 ≤ M from by have := hEA.b0; have := hEA.ba; have := hEA.am; simp only at *; omega)
        have HTM := Lib.hid (show -M ≤ R2 ∧ R2 ≤ M from hEA.tm)
        have hrl := within_limbs hRn HML.out HRM.out
        have htl := within_limbs hTn HML.out HTM.out
        clear HGA HGB HGS HGT HMX HZ1 HZ2 hEA HST HR HXM hB
        obtain ⟨sg, hsg⟩ : ∃ sg, sgn3 R2 0 = sg := ⟨_, rfl⟩
        have CS := Lib.hid (refSign_any vn vo vk vc R2 w3 (hTn.bg (by omega)))
        rw [hsg] at CS
        have k0 := hxt.c0
        have k1 := hxt.c1
        go_wp2_with fail
        refine CS.out.mono ?_
        rintro e w5 ⟨rfl, hE⟩
        have HBel := Lib.hid (HBel.out.trans (Below.mono hE HBz.out))
        have HBz := Lib.hid (Nat.le_trans HBz.out (Below.size hE))
        have hxr := hxr.below hE
        have hxt := hxt.below hE
        have hbx := hbx.below hE
        have hz1 := hz1.below hE
        have hz2 := hz2.below hE
        have hRn := hRn.below hE
        have hTn := hTn.below hE
        clear k0 k1 CS hE
        obtain ⟨A1, D1, hAD⟩ : ∃ A1 D1 : Int, (R2 < 0 → A1 = -R1 ∧ D1 = -R2) ∧ (¬ R2 < 0 → A1 = R1 ∧ D1 = R2) := by
          by_cases h : R2 < 0
          · exact ⟨-R1, -R2, fun _ => ⟨rfl, rfl⟩, fun h2 => absurd h h2⟩
          · exact ⟨R1, R2, fun h2 => absurd h2 h, fun _ => ⟨rfl, rfl⟩⟩
        have HAD := Lib.hid hAD
        clear hAD
        go_upto_if 53 with fail
        go_cut [] from 54 to 57 (fun wx => NA wx gb A1 ∧ NA wx (gs + 1) D1 ∧ (Box wx (B + 1) mn mo mk mc ∧ Box wx (B + 2) false none 0 0 ∧ Box wx (B + 3) false none 0 0) ∧ Below B w wx)
        case first =>
          by_cases hneg : R2 < 0
          · obtain rfl : -1 = sg := by rw [← hsg]; unfold sgn3; rw [if_pos hneg]
            obtain ⟨rfl, rfl⟩ := HAD.out.1 hneg
            clear hsg HAD
            have k0 := hxr.c0
            have k1 := hxr.c1
            have l0 := hxt.c0
            have l1 := hxt.c1
            go_upto_region 11 with fail
            go_region_with (first
              | (go_at_call 49; (with_reducible refine (refNeg_any rn ro rk rc R1 _ (by exact (hRn.bg (by omega)).below (by first | exact (Below.refl _ _).drew | exact Ext.refl _))).mono ?_); rintro e w9 ⟨an, ao, ak, ac, rfl, ha, _, hw9⟩; have ex1 : Ext w5 w9 := Ext.trans (by first | exact (Below.refl _ _).drew | exact Ext.refl _) hw9; clear k0 k1 l0 l1; have c1 := hxr.below ex1; have c2 := hxt.below ex1; have k0 := c1.c0; have k1 := c1.c1; have l0 := c2.c0; have l1 := c2.c1)
              | (go_at_call 49; refine (refNeg_any vn vo vk vc R2 _ (by exact (hTn.bg (by omega)).below ex1)).mono ?_; rintro e wr ⟨yn, yo, yk, yc, rfl, hd, _, hwr⟩; have ex2 : Ext w5 wr := ex1.trans hwr; clear k0 k1 l0 l1; have c3 := hxr.below ex2; have c4 := hxt.below ex2; have k0 := c3.c0; have k1 := c3.c1; have k2 := c3.f 0; have k3 := c3.f 1; have l0 := c4.c0; have l1 := c4.c1; have l2 := c4.f 0; have l3 := c4.f 1))
            all_goals
              go_wp2
              go_meet
            all_goals
              obtain ⟨y1, y2, y3, y4, y5⟩ := two_set (xn := an) (xo := ao) (xk := ak) (xc := ac) (yn := yn) (yo := yo) (yk := yk) (yc := yc) c3 c4 (by omega)
              exact ⟨⟨_, _, _, _, y1, bn_tr y4 (ha.below hwr)⟩, ⟨_, _, _, _, y2, bn_tr y4 hd⟩, ⟨y5 _ _ _ _ _ (hbx.below ex2) (by omega) (by omega), y5 _ _ _ _ _ (hz1.below ex2) (by omega) (by omega), y5 _ _ _ _ _ (hz2.below ex2) (by omega) (by omega)⟩, Below.trans (HBel.out.trans (ex2.mono HBz.out)) (y3 B (by omega) (by omega))⟩
          · have hsg0 : ¬ sg < 0 := by rw [← hsg]; unfold sgn3; rw [if_neg hneg]; split <;> omega
            obtain ⟨rfl, rfl⟩ := HAD.out.2 (by omega)
            have HF := Lib.hid (show NA w5 gb A1 ∧ NA w5 (gs + 1) D1 ∧ (Box w5 (B + 1) mn mo mk mc ∧ Box w5 (B + 2) false none 0 0 ∧ Box w5 (B + 3) false none 0 0) ∧ Below B w w5 from ⟨⟨_, _, _, _, hxr, hRn⟩, ⟨_, _, _, _, hxt, hTn⟩, ⟨hbx, hz1, hz2⟩, HBel.out⟩)
            go_wp2
            go_meet
            exact HF.out
        case rest =>
          clear hxr hxt hbx hz1 hz2 hRn hTn HBel HBz hsg
          obtain ⟨⟨rn, ro, rk, rc, hxr, hRn⟩, ⟨vn, vo, vk, vc, hxt, hTn⟩, ⟨hbx, hz1, hz2⟩, hB⟩ := hcut
          obtain ⟨V7, hw3⟩ : ∃ V7, V7 = wc := ⟨wc, rfl⟩
          subst hw3
          have HADM := Lib.hid (show (-M ≤ A1 ∧ A1 ≤ M) ∧ (-M ≤ D1 ∧ D1 ≤ M) ∧ D1 * D1 = R2 * R2 ∧ Nat.gcd A1.natAbs D1.natAbs = Nat.gcd R1.natAbs R2.natAbs from by
            have h1 := HRM.out
            have h2 := HTM.out
            by_cases h : R2 < 0
            · obtain ⟨rfl, rfl⟩ := HAD.out.1 h
              exact ⟨by omega, by omega, Int.neg_mul_neg _ _, by rw [Int.natAbs_neg, Int.natAbs_neg]⟩
            · obtain ⟨rfl, rfl⟩ := HAD.out.2 (by omega)
              exact ⟨h1, h2, rfl, rfl⟩)
          have hrl := within_limbs hRn HML.out HADM.out.1
          have htl := within_limbs hTn HML.out HADM.out.2.1
          have HBel := Lib.hid hB
          have HBz := Lib.hid (show B ≤ V7.heap.size by have := hz2.lt; omega)
          have hEw : Ext w V7 := by unfold Ext; rw [HBE.out]; exact hB
          have HMB := Lib.hid (HMW.out.below hEw)
          have HAL := Lib.hid (show A1.natAbs < 4294967296 ^ 20 from Nat.lt_of_le_of_lt (show A1.natAbs ≤ M.natAbs by have := HADM.out.1; omega) HML.out)
          have HDL := Lib.hid (show D1.natAbs < 4294967296 ^ 20 from Nat.lt_of_le_of_lt (show D1.natAbs ≤ M.natAbs by have := HADM.out.2.1; omega) HML.out)
          obtain ⟨bad, hbad⟩ : ∃ bad : Bool, (bad = true ↔ ratBad M A1 D1) := by classical exact ⟨decide _, decide_eq_true_iff⟩
          have HBAD := Lib.hid hbad
          clear hB hEw hbad
          obtain ⟨c, hc⟩ : ∃ c, sgn3 (D1 * D1 * 2 ^ 1) M = c := ⟨_, rfl⟩
          have HCS := Lib.hid (twice_sgn hc)
          have CM := Lib.hid (fun wx (h : Ext V7 wx) => refMul_any vn vn vo vk vc vo vk vc D1 D1 wx ((hTn.bg (by omega)).below h) ((hTn.bg (by omega)).below h))
          have CSH := Lib.hid (fun wx (h : Ext V7 wx) en eo ek ec (he : Bn wx en eo ek ec (D1 * D1)) => refShift_up en eo ek ec (D1 * D1) 1 wx (he.bg (Nat.le_trans (square_limbs he HDL.out) (by omega))) (by omega))
          have CC := Lib.hid (fun wx (h : Ext V7 wx) en eo ek ec (he : Bn wx en eo ek ec (D1 * D1 * 2 ^ 1)) => refCmp_any en mn eo ek ec mo mk mc (D1 * D1 * 2 ^ 1) M wx (he.bg (Nat.le_trans (twice_limbs he HDL.out) (by omega))) (HMB.out.below h) (Nat.le_trans (twice_limbs he HDL.out) (by omega)) (by omega))
          rw [hc] at CC
          have HC := Lib.hid (show ∀ wx, Ext V7 wx → ((wx.cell? ⟨gb, 0, none⟩ = some (.bool rn) ∧ wx.cell? ⟨gb, 1, none⟩ = some (.slice ro rk rc)) ∧ (wx.cell? ⟨gs + 1, 0, none⟩ = some (.bool vn) ∧ wx.cell? ⟨gs + 1, 1, none⟩ = some (.slice vo vk vc))) ∧ (wx.cell? ⟨B + 1, 0, none⟩ = some (.bool mn) ∧ wx.cell? ⟨B + 1, 1, none⟩ = some (.slice mo mk mc)) from fun wx h => ⟨⟨⟨(hxr.below h).c0, (hxr.below h).c1⟩, ⟨(hxt.below h).c0, (hxt.below h).c1⟩⟩, ⟨(hbx.below h).c0, (hbx.below h).c1⟩⟩)
          have stn : St V7 V7 [] := ⟨Ext.refl _, fun p hp => by cases hp⟩
          have std := stn.drew
          clear hc
          obtain ⟨⟨⟨k0, k1⟩, l0, l1⟩, p0, p1⟩ := HC.out V7 (Ext.refl _)
          go_upto_region 12 with fail
          go_cut [72] from 58 (fun v wx => v = .bool bad ∧ Ext V7 wx)
          case first =>
            by_cases hbig : M < 2 * (D1 * D1)
            · obtain rfl : c = 1 := HCS.out.1 hbig
              obtain rfl : true = bad := (HBAD.out.2 (Or.inl hbig)).symm
              clear hbig HCS
              first | (go_region_with (first
                | (go_at_call 36; refine (CM.out _ (by exact St.ext (by first | assumption | exact St.drew (by assumption)))).mono ?_; rintro e wn ⟨en, eo, ek, ec, rfl, he, hwn⟩; have stm := St.step (W := V7) (by first | assumption | exact St.drew (by assumption)) hwn; clear k0 k1 l0 l1 p0 p1; obtain ⟨⟨⟨k0, k1⟩, l0, l1⟩, p0, p1⟩ := HC.out wn stm.ext)
                | (go_at_call 38; refine (CSH.out _ (by exact St.ext (by first | assumption | exact St.drew (by assumption))) _ _ _ _ (by first | exact he | exact he.below (Below.refl _ _).drew)).mono ?_; rintro e wm ⟨fn, fo, fk, fc, rfl, hf, _, hwm⟩; have sto := St.step (W := V7) (by first | assumption | exact St.drew (by assumption)) hwm; clear k0 k1 l0 l1 p0 p1; obtain ⟨⟨⟨k0, k1⟩, l0, l1⟩, p0, p1⟩ := HC.out wm sto.ext)
                | (go_at_call 37; refine (CC.out _ (by exact St.ext (by first | assumption | exact St.drew (by assumption))) _ _ _ _ (by first | exact hf | exact hf.below (Below.refl _ _).drew)).mono ?_; rintro e wq ⟨rfl, hwq⟩; have stq := St.step (W := V7) (by first | assumption | exact St.drew (by assumption)) hwq; clear k0 k1 l0 l1 p0 p1))) | fail "no walk"
              all_goals
                go_wp2
                go_meet
              all_goals exact ⟨rfl, stq.ext⟩
            · have hcs : decide (0 < c) = false := decide_eq_false (HCS.out.2 (by omega))
              obtain ⟨g, hg⟩ : ∃ g, Nat.gcd A1.natAbs D1.natAbs = g := ⟨_, rfl⟩
              have HGL := Lib.hid (show g < 4294967296 ^ 20 by rw [← hg]; exact gcd_ltR HAL.out HDL.out)
              have CG := Lib.hid (fun wx (h : Ext V7 wx) => refGcd_any rn vn ro vo rk vk rc vc A1 D1 wx ((hRn.bg (by omega)).below h) ((hTn.bg (by omega)).below h) (pow_far 100000000 HAL.out (by decide)) (pow_far 100000000 HDL.out (by decide)))
              rw [hg] at CG
              obtain ⟨c2, hc2⟩ : ∃ c2, sgn3 (g : Int) 1 = c2 := ⟨_, rfl⟩
              have C1 := Lib.hid (fun (wx : World) => refFromInt_any 1 wx (by omega) (by omega))
              have CC2 := Lib.hid (fun wx (_ : Ext V7 wx) en eo ek ec jn jo jk jc (he : Bn wx en eo ek ec (g : Int)) (hj : Bn wx jn jo jk jc (1 : Int)) => refCmp_any en jn eo ek ec jo jk jc (g : Int) 1 wx (he.bg (Nat.le_trans (few_limbs he (k := 20) (by rw [Int.natAbs_natCast]; exact HGL.out)) (by omega))) (hj.bg (Nat.le_trans (few_limbs hj (k := 20) (by decide)) (by omega))) (Nat.le_trans (few_limbs he (k := 20) (by rw [Int.natAbs_natCast]; exact HGL.out)) (by omega)) (Nat.le_trans (few_limbs hj (k := 20) (by decide)) (by omega)))
              rw [hc2] at CC2
              have HBG := Lib.hid hbig
              have HG := Lib.hid hg
              have HC2 := Lib.hid hc2
              clear hbig hg hc2 HCS
              by_cases hg1 : g = 1
              · obtain rfl : 0 = c2 := by rw [← HC2.out, hg1]; rfl
                have hnb : bad = false := by
                  cases hb : bad with
                  | false => rfl
                  | true =>
                    exfalso
                    rcases HBAD.out.1 hb with h | h
                    · have := HBG.out; omega
                    · exact h (HG.out.trans hg1)
                subst hnb
                clear hg1
                first | (go_region_held3 (fun wx => ((wx.cell? ⟨gb, 0, none⟩ = some (.bool rn) ∧ wx.cell? ⟨gb, 1, none⟩ = some (.slice ro rk rc)) ∧ (wx.cell? ⟨gs + 1, 0, none⟩ = some (.bool vn) ∧ wx.cell? ⟨gs + 1, 1, none⟩ = some (.slice vo vk vc))) ∧ (wx.cell? ⟨B + 1, 0, none⟩ = some (.bool mn) ∧ wx.cell? ⟨B + 1, 1, none⟩ = some (.slice mo mk mc)))
                  (first | exact HC.out _ (by exact St.ext (by with_reducible assumption)))
                  (first
                    | (go_at_call 36; refine (CM.out _ (by exact St.ext (by assumption))).mono ?_; rintro e wn ⟨en, eo, ek, ec, rfl, he, hwn⟩; have stn := St.step (W := V7) (by with_reducible assumption) hwn)
                    | (go_at_call 38; refine (CSH.out _ (by exact St.ext (by assumption)) _ _ _ _ (by first | exact he | exact he.below (Below.refl _ _).drew)).mono ?_; rintro e wm ⟨fn, fo, fk, fc, rfl, hf, _, hwm⟩; have stm := St.step (W := V7) (by with_reducible assumption) hwm)
                    | (go_at_call 37; (with_reducible refine (CC.out _ (by exact St.ext (by assumption)) _ _ _ _ (by first | exact hf | exact hf.below (Below.refl _ _).drew)).mono ?_); rintro e wq ⟨rfl, hwq⟩; have stq := St.step (W := V7) (by with_reducible assumption) hwq)
                    | (go_at_call 17; refine (CG.out _ (by exact St.ext (by assumption))).mono ?_; rintro e wo ⟨gn', go', gk', gc', rfl, hgg, hwo⟩; have sto := St.step (W := V7) (by with_reducible assumption) hwo)
                    | (go_at_call 18; refine (C1.out _).mono ?_; rintro e wp ⟨jn, jo, jk, jc, rfl, hj, hwp⟩; have hgp := hgg.below (by first | exact hwp | exact Ext.trans (Below.refl _ _).drew hwp); have stp := St.step (W := V7) (by with_reducible assumption) hwp)
                    | (go_at_call 37; refine (CC2.out _ (by exact St.ext (by assumption)) _ _ _ _ _ _ _ _ (by first | exact hgp | exact hgp.below (Below.refl _ _).drew) (by first | exact hj | exact hj.below (Below.refl _ _).drew)).mono ?_; rintro e ws ⟨rfl, hws⟩; have sts := St.step (W := V7) (by with_reducible assumption) hws)
                    )) | fail "r12"
                all_goals
                  go_wp2
                  go_meet
                all_goals exact ⟨by first | rfl | simp [hcs], sts.ext⟩
              · have hc2n : ¬ c2 = 0 := by rw [← HC2.out]; unfold sgn3; split <;> (try split) <;> omega
                obtain rfl : true = bad := (HBAD.out.2 (Or.inr (fun h => hg1 (HG.out.symm.trans h)))).symm
                have hc2b : (c2 != 0) = true := by simpa using hc2n
                clear hg1
                first | (go_region_held3 (fun wx => ((wx.cell? ⟨gb, 0, none⟩ = some (.bool rn) ∧ wx.cell? ⟨gb, 1, none⟩ = some (.slice ro rk rc)) ∧ (wx.cell? ⟨gs + 1, 0, none⟩ = some (.bool vn) ∧ wx.cell? ⟨gs + 1, 1, none⟩ = some (.slice vo vk vc))) ∧ (wx.cell? ⟨B + 1, 0, none⟩ = some (.bool mn) ∧ wx.cell? ⟨B + 1, 1, none⟩ = some (.slice mo mk mc)))
                  (first | exact HC.out _ (by exact St.ext (by with_reducible assumption)))
                  (first
                    | (go_at_call 36; refine (CM.out _ (by exact St.ext (by assumption))).mono ?_; rintro e wn ⟨en, eo, ek, ec, rfl, he, hwn⟩; have stn := St.step (W := V7) (by with_reducible assumption) hwn)
                    | (go_at_call 38; refine (CSH.out _ (by exact St.ext (by assumption)) _ _ _ _ (by first | exact he | exact he.below (Below.refl _ _).drew)).mono ?_; rintro e wm ⟨fn, fo, fk, fc, rfl, hf, _, hwm⟩; have stm := St.step (W := V7) (by with_reducible assumption) hwm)
                    | (go_at_call 37; (with_reducible refine (CC.out _ (by exact St.ext (by assumption)) _ _ _ _ (by first | exact hf | exact hf.below (Below.refl _ _).drew)).mono ?_); rintro e wq ⟨rfl, hwq⟩; have stq := St.step (W := V7) (by with_reducible assumption) hwq)
                    | (go_at_call 17; refine (CG.out _ (by exact St.ext (by assumption))).mono ?_; rintro e wo ⟨gn', go', gk', gc', rfl, hgg, hwo⟩; have sto := St.step (W := V7) (by with_reducible assumption) hwo)
                    | (go_at_call 18; refine (C1.out _).mono ?_; rintro e wp ⟨jn, jo, jk, jc, rfl, hj, hwp⟩; have hgp := hgg.below (by first | exact hwp | exact Ext.trans (Below.refl _ _).drew hwp); have stp := St.step (W := V7) (by with_reducible assumption) hwp)
                    | (go_at_call 37; refine (CC2.out _ (by exact St.ext (by assumption)) _ _ _ _ _ _ _ _ (by first | exact hgp | exact hgp.below (Below.refl _ _).drew) (by first | exact hj | exact hj.below (Below.refl _ _).drew)).mono ?_; rintro e ws ⟨rfl, hws⟩; have sts := St.step (W := V7) (by with_reducible assumption) hws)
                    )) | fail "r12"
                all_goals
                  go_wp2
                  go_meet
                all_goals exact ⟨by first | rfl | simp [hc2b] | simp [hc2n] | simp [hcs, hc2n], sts.ext⟩
          case rest =>
            obtain ⟨rfl, hE⟩ := hcut
            have hxr := hxr.below hE
            have hxt := hxt.below hE
            have hz1 := hz1.below hE
            have hz2 := hz2.below hE
            have hRn := hRn.below hE
            have hTn := hTn.below hE
            have HBel := Lib.hid (HBel.out.trans (Below.mono hE HBz.out))
            have HBz := Lib.hid (Nat.le_trans HBz.out (Below.size hE))
            clear HC CM CSH CC std stn k0 k1 l0 l1 p0 p1 hE HCS hbx HMB
            obtain ⟨wq, hwq⟩ : ∃ wq, wq = wc := ⟨wc, rfl⟩
            subst hwq
            cases bad with
            | true =>
              have hb := HBAD.out.1 rfl
              have hb2 : ratBad M R1 R2 := by
                rcases hb with h | h
                · exact Or.inl (by rw [← HADM.out.2.2.1]; exact h)
                · exact Or.inr (by rw [← HADM.out.2.2.2]; exact h)
              have h1 := HO.out
              rw [ratOut_bad (by have := HM0.out; omega) HRO.out hb2] at h1
              obtain ⟨rfl, rfl, rfl⟩ := three_injR h1
              clear h1 hb hb2 hRn hTn hxr hxt HBAD
              obtain ⟨y1, y2, y3, y4, y5⟩ := two_set (xn := false) (xo := none) (xk := 0) (xc := 0) (yn := false) (yo := none) (yk := 0) (yc := 0) hz1 hz2 (by omega)
              have z0 := y1.c0
              have z1 := y1.c1
              have z2 := y2.c0
              have z3 := y2.c1
              have HF := Lib.hid (Below.trans HBel.out (y3 B (by omega) (by omega)))
              have p0 := hz1.c0
              have p1 := hz1.c1
              have p2 := hz1.f 0
              have p3 := hz1.f 1
              have q0 := hz2.c0
              have q1 := hz2.c1
              have q2 := hz2.f 0
              have q3 := hz2.f 1
              clear y1 y2 y3 y4 y5
              go_wp2
              refine bodyPost_ret (v := .tuple #[.agg #[.bool false, .slice none 0 0], .agg #[.bool false, .slice none 0 0], .bool false]) (by simp [results, Tryz.results14, go_sem, z0, z1, z2, z3]) rfl ⟨false, none, 0, 0, false, none, 0, 0, rfl, zero_bn' _, zero_bn' _, by show Below _ _ _; rw [HBE.out]; exact HF.out⟩
            | false =>
              have hb2 : ¬ ratBad M R1 R2 := by
                intro h
                have : ratBad M A1 D1 := by
                  rcases h with h | h
                  · exact Or.inl (by rw [HADM.out.2.2.1]; exact h)
                  · exact Or.inr (by rw [HADM.out.2.2.2]; exact h)
                cases HBAD.out.2 this
              have HO2 := Lib.hid (show A1 = A0 ∧ D1 = D0 ∧ true = ok from by
                have h1 := HO.out
                by_cases h : R2 < 0
                · obtain ⟨rfl, rfl⟩ := HAD.out.1 h
                  rw [ratOut_neg (by have := HM0.out; omega) HRO.out hb2 h] at h1
                  exact three_injR h1
                · obtain ⟨rfl, rfl⟩ := HAD.out.2 (by omega)
                  rw [ratOut_pos (by have := HM0.out; omega) HRO.out hb2 h] at h1
                  exact three_injR h1)
              obtain ⟨rfl, rfl, rfl⟩ := HO2.out
              clear hb2 HBAD HO2 HO
              have k0 := hxr.c0
              have k1 := hxr.c1
              have l0 := hxt.c0
              have l1 := hxt.c1
              have hlz1 := hz1.lt
              have hlz2 := hz2.lt
              go_upto_region 14 with fail
              go_region_with (first
                | (go_at_call 50; (with_reducible refine (refNorm_any rn ro rk rc A1 _ (by exact (hRn.bg (by omega)).below (by first | exact (Below.refl _ _).drew | exact Ext.refl _))).mono ?_); rintro e w9 ⟨an, ao, ak, ac, rfl, ha, _, hw9⟩; have ex1 : Ext wq w9 := Ext.trans (by first | exact (Below.refl _ _).drew | exact Ext.refl _) hw9; clear k0 k1 l0 l1; have c2 := hxt.below ex1; have l0 := c2.c0; have l1 := c2.c1)
                | (go_at_call 50; refine (refNorm_any vn vo vk vc D1 _ (by exact (hTn.bg (by omega)).below ex1)).mono ?_; rintro e wr ⟨yn, yo, yk, yc, rfl, hd, _, hwr⟩; have ex2 : Ext wq wr := ex1.trans hwr; clear l0 l1; have c3 := hz1.below ex2; have c4 := hz2.below ex2; have k0 := c3.c0; have k1 := c3.c1; have k2 := c3.f 0; have k3 := c3.f 1; have l0 := c4.c0; have l1 := c4.c1; have l2 := c4.f 0; have l3 := c4.f 1))
              all_goals
                obtain ⟨y1, y2, y3, y4, y5⟩ := two_set (xn := an) (xo := ao) (xk := ak) (xc := ac) (yn := yn) (yo := yo) (yk := yk) (yc := yc) c3 c4 (by omega)
                have z0 := y1.c0
                have z1 := y1.c1
                have z2 := y2.c0
                have z3 := y2.c1
                have HF := Lib.hid (And.intro (bn_tr y4 (ha.below hwr)) (And.intro (bn_tr y4 hd) (Below.trans (HBel.out.trans (ex2.mono HBz.out)) (y3 B (by omega) (by omega)))))
                clear y1 y2 y3 y4 y5 c2 c3 c4 ha hd
                go_wp2
                refine bodyPost_ret (v := .tuple #[.agg #[.bool an, .slice ao ak ac], .agg #[.bool yn, .slice yo yk yc], .bool true]) (by simp [results, Tryz.results14, go_sem, z0, z1, z2, z3]) rfl ⟨_, _, _, _, _, _, _, _, rfl, HF.out.1, HF.out.2.1, by show Below _ _ _; rw [HBE.out]; exact HF.out.2.2⟩
end Go.Proofs.YtlpclahlolhjfaaGreatDoor
