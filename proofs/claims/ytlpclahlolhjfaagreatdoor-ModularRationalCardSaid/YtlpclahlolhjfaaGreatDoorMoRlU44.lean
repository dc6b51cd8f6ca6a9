import Derived.Test.YtlpclahlolhjfaaGreatDoorMoRlU40
import Derived.Test.YtlpclahlolhjfaaGreatDoorMoRlU23
import Derived.Test.YtlpclahlolhjfaaGreatDoorMoRlU41
import Derived.Test.YtlpclahlolhjfaaGreatDoorMoRlU43
namespace Go.Proofs.YtlpclahlolhjfaaGreatDoor
open Go Go.RowKit

theorem three_inj {a a' b b' : Int} {c c' : Bool} (h : (a, b, c) = (a', b', c')) : a = a' ∧ b = b' ∧ c = c' := ⟨congrArg Prod.fst h, congrArg (fun x => x.2.1) h, congrArg (fun x => x.2.2) h⟩
theorem gcd_lt {a b K : Nat} (ha : a < K) (hb : b < K) : Nat.gcd a b < K := by
  rcases Nat.eq_zero_or_pos a with rfl | h
  · rw [Nat.gcd_zero_left]; exact hb
  · exact Nat.lt_of_le_of_lt (Nat.gcd_le_left b h) ha
theorem shf_half {x : Int} : shf x (-1) = x / 2 := by unfold shf; rw [if_neg (by omega)]; rfl

set_option maxRecDepth 100000 in
set_option maxHeartbeats 8000000 in
theorem rational_any (xn mn : Bool) (xo mo : Option Addr) (xk xc mk mc : Nat) (X M A0 D0 : Int) (ok : Bool) (w : World) (hX : Bg w xn xo xk xc X) (hM : Bg w mn mo mk mc M) (hxk : xk ≤ 40) (hmk : mk ≤ 20) (hMl : M.natAbs < 4294967296 ^ 20) (hT : Table w) (hO : ratOut X M = (A0, D0, ok)) :
    Calls Tryz.prog 13 #[.agg #[.bool xn, .slice xo xk xc], .agg #[.bool mn, .slice mo mk mc]] w fun e w' => ∃ an ao ak ac dn dp dk dc, e = .returned (.tuple #[.agg #[.bool an, .slice ao ak ac], .agg #[.bool dn, .slice dp dk dc], .bool ok]) ∧
      Bn w' an ao ak ac A0 ∧ Bn w' dn dp dk dc D0 ∧ Ext w w' := by
  have HO := Lib.hid hO
  have HML := Lib.hid hMl
  clear hO hMl
  go_enter Tryz.func13, Tryz.ntmps13
  go_upto_region 1 with fail
  obtain ⟨W, hW, hE0, hx, hm, hz1, hz2, hz⟩ := boxes_four w xn xo xk xc mn mo mk mc
  rw [← hW]
  clear hW
  have HX := Lib.hid (hX.below hE0)
  have HM := Lib.hid (hM.below hE0)
  have HT := Lib.hid (hT.below hE0)
  generalize hBe : w.heap.size = B at *
  have HBE := Lib.hid hBe
  have HBel := Lib.hid (show Below B w W from hBe ▸ hE0)
  have HBz := Lib.hid (show B + 4 ≤ W.heap.size by omega)
  clear hBe hX hM hT hE0 hz
  obtain ⟨s, hs⟩ : ∃ s, sgn3 M 0 = s := ⟨_, rfl⟩
  have CS := Lib.hid (sign_any mn mo mk mc M W HM.out)
  rw [hs] at CS
  have k0 := hm.c0
  have k1 := hm.c1
  go_wp2_with fail
  refine CS.out.mono ?_
  rintro e w1 ⟨rfl, hE⟩
  have HX := Lib.hid (HX.out.below hE)
  have HM := Lib.hid (HM.out.below hE)
  have HT := Lib.hid (HT.out.below hE)
  have hx := hx.below hE
  have hm := hm.below hE
  have hz1 := hz1.below hE
  have hz2 := hz2.below hE
  have HBel := Lib.hid (HBel.out.trans (Below.mono hE (by have := HBz.out; omega)))
  have HBz := Lib.hid (Nat.le_trans HBz.out (Below.size hE))
  clear k0 k1 CS hE
  by_cases hM0 : M ≤ 0
  · have hs0 : s ≤ 0 := by rw [← hs]; unfold sgn3; split <;> (try split) <;> omega
    have h1 := HO.out
    rw [ratOut_none hM0] at h1
    obtain ⟨rfl, rfl, rfl⟩ := three_inj h1
    clear hs h1 hM0
    obtain ⟨y1, y2, y3, y4, y5⟩ := two_set (xn := false) (xo := none) (xk := 0) (xc := 0) (yn := false) (yo := none) (yk := 0) (yc := 0) hz1 hz2 (by omega)
    have z0 := y1.c0
    have z1 := y1.c1
    have z2 := y2.c0
    have z3 := y2.c1
    have HF := Lib.hid (Below.trans HBel.out (y3 B (by omega) (by omega)))
    have p0 := hz1.c0
    have p1 := hz1.c1
    have p2 := hz1.f 0
    have p3 := hz1.f 1
    have q0 := hz2.c0
    have q1 := hz2.c1
    have q2 := hz2.f 0
    have q3 := hz2.f 1
    clear y1 y2 y3 y4 y5
    go_wp2
    refine bodyPost_ret (v := .tuple #[.agg #[.bool false, .slice none 0 0], .agg #[.bool false, .slice none 0 0], .bool false]) (by simp [results, Tryz.results13, go_sem, z0, z1, z2, z3]) rfl ⟨false, none, 0, 0, false, none, 0, 0, rfl, zero_bn' _, zero_bn' _, by show Below _ _ _; rw [HBE.out]; exact HF.out⟩
  · have hs0 : ¬ s ≤ 0 := by rw [← hs]; unfold sgn3; rw [if_neg (by omega), if_pos (by omega)]; omega
    have HM0 := Lib.hid (show 0 < M by omega)
    clear hs hM0
    have k0 := hm.c0
    have k1 := hm.c1
    go_wp2_with fail
    have CSH := shift_any mn mo mk mc M (-1) w1 HM.out (by omega) (by omega) HT.out
    rw [shf_half] at CSH
    refine CSH.mono ?_
    rintro e w2 ⟨hn, ho, hl, hc, rfl, hH, hE⟩
    have HX := Lib.hid (HX.out.below hE)
    have HM := Lib.hid (HM.out.below hE)
    have hx := hx.below hE
    have hm := hm.below hE
    have hz1 := hz1.below hE
    have hz2 := hz2.below hE
    have HBel := Lib.hid (HBel.out.trans (Below.mono hE (by have := HBz.out; omega)))
    have HBz := Lib.hid (Nat.le_trans HBz.out (Below.size hE))
    clear k0 k1 CSH hE HT
    go_upto_region 4 with fail
    obtain ⟨V, hV, hE, hxh, _⟩ := box_new w2 hn ho hl hc
    rw [← hV]
    clear hV
    have HX := Lib.hid (HX.out.below hE)
    have HM := Lib.hid (HM.out.below hE)
    have hx := hx.below hE
    have hm := hm.below hE
    have hz1 := hz1.below hE
    have hz2 := hz2.below hE
    have hH := hH.below hE
    have HBel := Lib.hid (HBel.out.trans (Below.mono hE (by have := HBz.out; omega)))
    have HBz' := Lib.hid (Nat.le_trans HBz.out (Below.size hE))
    clear HBz
    have HBz := Lib.hid HBz'.out
    clear HBz'
    generalize w2.heap.size = Hf at *
    have hhl : hl ≤ 20 := within_limbs hH HML.out (by have := HM0.out; omega)
    clear hE
    have k0 := hxh.c0
    have k1 := hxh.c1
    go_wp2_with fail
    refine (sqrt_any hn ho hl hc (M / 2) V (hH.bg (by omega)) (by omega) (by have := HM0.out; omega)).mono ?_
    rintro e w3 ⟨bn, bo, bk, bc, s1, rfl, hS, hs1, hs2, hE⟩
    have HX := Lib.hid (HX.out.below hE)
    have HM := Lib.hid (HM.out.below hE)
    have hx := hx.below hE
    have hm := hm.below hE
    have hz1 := hz1.below hE
    have hz2 := hz2.below hE
    have HBel := Lib.hid (HBel.out.trans (Below.mono hE (by have := HBz.out; omega)))
    have HBz := Lib.hid (Nat.le_trans HBz.out (Below.size hE))
    have hSS1 : (s1 : Int) * (s1 : Int) ≤ M / 2 := by have h0 := HM0.out; rw [← Int.natCast_mul]; omega
    have hSS2 : M / 2 < ((s1 : Int) + 1) * ((s1 : Int) + 1) := by
      have h0 := HM0.out
      have h1 : ((s1 : Int) + 1) * ((s1 : Int) + 1) = (((s1 + 1) * (s1 + 1) : Nat) : Int) := by rw [Int.natCast_mul]; rfl
      rw [h1]; omega
    have HSS := Lib.hid (And.intro hSS1 hSS2)
    have hsM : -M ≤ (s1 : Int) ∧ (s1 : Int) ≤ M := by
      have h0 := HM0.out
      have h3 := (root_bound (m := M) (c := (s1 : Int)) (by omega) hSS1 hSS2 (by omega))
      have h4 : (s1 : Int) ≤ (s1 : Int) * (s1 : Int) := by
        rcases Nat.eq_zero_or_pos s1 with h5 | h5
        · rw [h5]; omega
        · have := Int.mul_le_mul_of_nonneg_left (show (1 : Int) ≤ (s1 : Int) by omega) (show (0 : Int) ≤ (s1 : Int) by omega)
          omega
      omega
    have hbl := within_limbs hS HML.out hsM
    clear k0 k1 hE hs1 hs2 hH hxh hSS1 hSS2 hsM hhl
    go_upto_region 5 with fail
    obtain ⟨V2, hV, hE, hxb, _⟩ := box_new w3 bn bo bk bc
    rw [← hV]
    clear hV
    have HX := Lib.hid (HX.out.below hE)
    have HM := Lib.hid (HM.out.below hE)
    have hx := hx.below hE
    have hm := hm.below hE
    have hz1 := hz1.below hE
    have hz2 := hz2.below hE
    have hS := hS.below hE
    have HBel := Lib.hid (HBel.out.trans (Below.mono hE (by have := HBz.out; omega)))
    have hG4 : B + 4 ≤ w3.heap.size := HBz.out
    have HBz' := Lib.hid (Nat.le_trans HBz.out (Below.size hE))
    clear HBz
    have HBz := Lib.hid HBz'.out
    clear HBz'
    generalize w3.heap.size = G at *
    obtain ⟨⟨R1, R2⟩, hR⟩ : ∃ R, eu (M.toNat + 1) M M (X % M) 0 1 = R := ⟨_, rfl⟩
    have CF := Lib.hid (firstWithin_any bn xn mn bo xo mo bk bc xk xc mk mc (s1 : Int) X M R1 R2 V2 (hS.bg (by omega)) HX.out HM.out (by omega) (by omega) HM0.out HML.out (by omega) HSS.out.1 HSS.out.2 hR)
    have HR := Lib.hid hR
    clear hE hR
    have k0 := hxb.c0
    have k1 := hxb.c1
    have l0 := hx.c0
    have l1 := hx.c1
    have p0 := hm.c0
    have p1 := hm.c1
    go_wp2_with fail
    refine CF.out.mono ?_
    rintro e w4 ⟨rn, ro, rk, rc, vn, vo, vk, vc, rfl, hRn, hTn, hE⟩
    have hxb := hxb.below hE
    have hz1 := hz1.below hE
    have hz2 := hz2.below hE
    have hS := hS.below hE
    have HBel := Lib.hid (HBel.out.trans (Below.mono hE (by have := HBz.out; omega)))
    have HBz := Lib.hid (Nat.le_trans HBz.out (Below.size hE))
    clear k0 k1 l0 l1 p0 p1 CF hE HX HM hx hm
    have k0 := hz1.c0
    have k1 := hz1.c1
    have k2 := hz1.f 0
    have k3 := hz1.f 1
    have l0 := hz2.c0
    have l1 := hz2.c1
    have l2 := hz2.f 0
    have l3 := hz2.f 1
    obtain ⟨y1, y2, y3, y4, y5⟩ := two_set (xn := rn) (xo := ro) (xk := rk) (xc := rc) (yn := vn) (yo := vo) (yk := vk) (yc := vc) hz1 hz2 (by omega)
    have HBel := Lib.hid (Below.trans HBel.out (y3 B (by omega) (by omega)))
    have HZ1 := Lib.hid y1
    have HZ2 := Lib.hid y2
    have HXB := Lib.hid (y5 _ _ _ _ _ hxb (by omega) (by omega))
    have HRn := Lib.hid (bn_tr y4 hRn)
    have HTn := Lib.hid (bn_tr y4 hTn)
    have HSn := Lib.hid (bn_tr y4 hS)
    clear y1 y2 y3 y4 y5 hz1 hz2 hxb hRn hTn hS
    go_wp2_with fail
    clear k0 k1 k2 k3 l0 l1 l2 l3
    generalize ((((w4.setCell ⟨B + 2, 0, none⟩ (.bool rn)).setCell ⟨B + 2, 1, none⟩ (.slice ro rk rc)).setCell ⟨B + 3, 0, none⟩ (.bool vn)).setCell ⟨B + 3, 1, none⟩ (.slice vo vk vc)) = V4 at *
    refine (fromInt_any 1 V4 (by omega) (by omega)).mono ?_
    rintro e w5 ⟨jn, jo, jk, jc, rfl, hJ, hE⟩
    have HBz := Lib.hid (show B + 4 ≤ V4.heap.size by have := HZ2.out.lt; omega)
    have HBel := Lib.hid (HBel.out.trans (Below.mono hE (by have := HBz.out; omega)))
    have HBz := Lib.hid (Nat.le_trans HBz.out (Below.size hE))
    have hz1 := HZ1.out.below hE
    have hz2 := HZ2.out.below hE
    have hxb := HXB.out.below hE
    have hRn := HRn.out.below hE
    have hTn := HTn.out.below hE
    have hSn := HSn.out.below hE
    clear hE HZ1 HZ2 HXB HRn HTn HSn
    go_upto_region 7 with fail
    obtain ⟨V7, hV, hE, hxj, _⟩ := box_new w5 jn jo jk jc
    rw [← hV]
    clear hV
    have hz1 := hz1.below hE
    have hz2 := hz2.below hE
    have hxb := hxb.below hE
    have hRn := hRn.below hE
    have hTn := hTn.below hE
    have hSn := hSn.below hE
    have hJ := hJ.below hE
    have HBel := Lib.hid (HBel.out.trans (Below.mono hE (by have := HBz.out; omega)))
    have HBz' := Lib.hid (Nat.le_trans HBz.out (Below.size hE))
    clear HBz
    have HBz := Lib.hid HBz'.out
    clear HBz'
    generalize w5.heap.size = H at *
    clear hE
    obtain ⟨a', s', hEA, hEN⟩ := eu_spec (M.toNat + 1) (EA.start (x := X) HM0.out) (by have := Int.emod_lt_of_pos X HM0.out; have := HM0.out; omega)
    rw [HR.out] at hEA hEN
    have hrl := within_limbs hRn HML.out (by have := hEA.b0; have := hEA.ba; have := hEA.am; simp only at *; omega)
    have htl := within_limbs hTn HML.out hEA.tm
    have HRL := Lib.hid (show R1.natAbs < 4294967296 ^ 20 from Nat.lt_of_le_of_lt (by have := hEA.b0; have := hEA.ba; have := hEA.am; simp only at *; omega) HML.out)
    have HTL := Lib.hid (show R2.natAbs < 4294967296 ^ 20 from Nat.lt_of_le_of_lt (by have := hEA.tm; simp only at *; omega) HML.out)
    clear hEA hEN
    have HC := Lib.hid (show ∀ wx, Ext V7 wx → ((wx.cell? ⟨B + 2, 0, none⟩ = some (.bool rn) ∧ wx.cell? ⟨B + 2, 1, none⟩ = some (.slice ro rk rc)) ∧ (wx.cell? ⟨B + 3, 0, none⟩ = some (.bool vn) ∧ wx.cell? ⟨B + 3, 1, none⟩ = some (.slice vo vk vc))) ∧ ((wx.cell? ⟨G, 0, none⟩ = some (.bool bn) ∧ wx.cell? ⟨G, 1, none⟩ = some (.slice bo bk bc)) ∧ (wx.cell? ⟨H, 0, none⟩ = some (.bool jn) ∧ wx.cell? ⟨H, 1, none⟩ = some (.slice jo jk jc))) from fun wx h => ⟨⟨⟨(hz1.below h).c0, (hz1.below h).c1⟩, ⟨(hz2.below h).c0, (hz2.below h).c1⟩⟩, ⟨⟨(hxb.below h).c0, (hxb.below h).c1⟩, ⟨(hxj.below h).c0, (hxj.below h).c1⟩⟩⟩)
    have CAB := Lib.hid (fun wx (h : Ext V7 wx) => abs_any vn vo vk vc R2 wx ((hTn.bg (by omega)).below h))
    obtain ⟨c, hc⟩ : ∃ c, sgn3 (R2.natAbs : Int) (s1 : Int) = c := ⟨_, rfl⟩
    have CC1 := Lib.hid (fun wx (h : Ext V7 wx) en eo ek ec (he : Bn wx en eo ek ec (R2.natAbs : Int)) => cmp_any en bn eo ek ec bo bk bc (R2.natAbs : Int) (s1 : Int) wx (he.bg (Nat.le_trans (few_limbs he (k := 20) (by have := HTL.out; rw [Int.natAbs_natCast]; exact this)) (by omega))) ((hSn.bg (by omega)).below h))
    rw [hc] at CC1
    have HBT := Lib.hid (root_bound (m := M) (c := (R2.natAbs : Int)) (by omega) HSS.out.1 HSS.out.2 (by omega))
    have hsq : (R2.natAbs : Int) * (R2.natAbs : Int) = R2 * R2 := Int.natAbs_mul_self' R2
    rw [hsq] at HBT
    clear hsq
    obtain ⟨⟨⟨k0, k1⟩, l0, l1⟩, ⟨p0, p1⟩, q0, q1⟩ := HC.out V7 (Ext.refl _)
    have stn : St V7 V7 [] := ⟨Ext.refl _, fun p hp => by cases hp⟩
    have std := stn.drew
    obtain ⟨bad, hbad⟩ : ∃ bad : Bool, (bad = true ↔ ratBad M R1 R2) := by classical exact ⟨decide _, decide_eq_true_iff⟩
    have HBAD := Lib.hid hbad
    clear hbad
    go_cut [47] from 35 (fun v wx => v = .bool bad ∧ Ext V7 wx)
    case first =>
      by_cases hbig : M < 2 * (R2 * R2)
      · have hcs := HBT.out.2 hbig
        obtain rfl : 1 = c := by rw [← hc]; unfold sgn3; rw [if_neg (by omega), if_pos (by omega)]
        obtain rfl : true = bad := (HBAD.out.2 (Or.inl hbig)).symm
        clear hc hcs hbig HBT
        first | (go_region_with (first
          | (go_at_call 44; refine (CAB.out _ (by exact St.ext (by first | assumption | exact St.drew (by assumption)))).mono ?_; rintro e wn ⟨en, eo, ek, ec, rfl, he, hwn⟩; have stm := St.step (W := V7) (by first | assumption | exact St.drew (by assumption)) hwn; clear k0 k1 l0 l1 p0 p1 q0 q1; obtain ⟨⟨⟨k0, k1⟩, l0, l1⟩, ⟨p0, p1⟩, q0, q1⟩ := HC.out wn stm.ext)
          | (go_at_call 28; refine (CC1.out _ (by exact St.ext (by first | assumption | exact St.drew (by assumption))) _ _ _ _ (by first | exact he | exact he.below (Below.refl _ _).drew)).mono ?_; rintro e wm ⟨rfl, hwm⟩; have sto := St.step (W := V7) (by first | assumption | exact St.drew (by assumption)) hwm; clear k0 k1 l0 l1 p0 p1 q0 q1))) | fail "no walk"
        all_goals
          go_wp2
          go_meet
        all_goals exact ⟨rfl, sto.ext⟩
      · have hcn : ¬ 0 < c := by
          have h1 : ¬ (s1 : Int) < (R2.natAbs : Int) := fun h => hbig (HBT.out.1 h)
          rw [← hc]; unfold sgn3; split <;> (try split) <;> omega
        have hcs : decide (0 < c) = false := decide_eq_false hcn
        clear hcn
        obtain ⟨g, hg⟩ : ∃ g, Nat.gcd R1.natAbs R2.natAbs = g := ⟨_, rfl⟩
        have hgl : g < 4294967296 ^ 20 := by rw [← hg]; exact gcd_lt HRL.out HTL.out
        have CG := Lib.hid (fun wx (h : Ext V7 wx) => gcd_any rn vn ro rk rc vo vk vc R1 R2 wx ((hRn.bg (by omega)).below h) ((hTn.bg (by omega)).below h) (by omega) (by omega))
        rw [hg] at CG
        obtain ⟨c2, hc2⟩ : ∃ c2, sgn3 (g : Int) 1 = c2 := ⟨_, rfl⟩
        have CC2 := Lib.hid (fun wx (h : Ext V7 wx) en eo ek ec (he : Bn wx en eo ek ec (g : Int)) => cmp_any en jn eo ek ec jo jk jc (g : Int) 1 wx (he.bg (Nat.le_trans (few_limbs he (k := 20) (by rw [Int.natAbs_natCast]; exact hgl)) (by omega))) ((hJ.bg (Nat.le_trans (few_limbs hJ (k := 20) (by decide)) (by omega))).below h))
        rw [hc2] at CC2
        have HBG := Lib.hid hbig
        have HG := Lib.hid hg
        have HC2 := Lib.hid hc2
        clear hc hbig hg hc2 hgl HBT
        by_cases hg1 : g = 1
        · obtain rfl : 0 = c2 := by rw [← HC2.out, hg1]; rfl
          have hnb : bad = false := by
            cases hb : bad with
            | false => rfl
            | true =>
              exfalso
              rcases HBAD.out.1 hb with h | h
              · have := HBG.out; omega
              · exact h (HG.out.trans hg1)
          subst hnb
          clear hg1
          first | (go_region_held3 (fun wx => ((wx.cell? ⟨B + 2, 0, none⟩ = some (.bool rn) ∧ wx.cell? ⟨B + 2, 1, none⟩ = some (.slice ro rk rc)) ∧ (wx.cell? ⟨B + 3, 0, none⟩ = some (.bool vn) ∧ wx.cell? ⟨B + 3, 1, none⟩ = some (.slice vo vk vc))) ∧ ((wx.cell? ⟨G, 0, none⟩ = some (.bool bn) ∧ wx.cell? ⟨G, 1, none⟩ = some (.slice bo bk bc)) ∧ (wx.cell? ⟨H, 0, none⟩ = some (.bool jn) ∧ wx.cell? ⟨H, 1, none⟩ = some (.slice jo jk jc))))
            (first | exact HC.out _ (by exact St.ext (by with_reducible assumption)))
            (first
              | (go_at_call 44; refine (CAB.out _ (by exact St.ext (by assumption))).mono ?_; rintro e wn ⟨en, eo, ek, ec, rfl, he, hwn⟩; have stn := St.step (W := V7) (by with_reducible assumption) hwn)
              | (go_at_call 28; (with_reducible refine (CC1.out _ (by exact St.ext (by assumption)) _ _ _ _ (by first | exact he | exact he.below (Below.refl _ _).drew)).mono ?_); rintro e wm ⟨rfl, hwm⟩; have stm := St.step (W := V7) (by with_reducible assumption) hwm)
              | (go_at_call 45; refine (CG.out _ (by exact St.ext (by assumption))).mono ?_; rintro e wp ⟨fn, fo, fk, fc, rfl, hf, hwp⟩; have stp := St.step (W := V7) (by with_reducible assumption) hwp)
              | (go_at_call 28; (with_reducible refine (CC2.out _ (by exact St.ext (by assumption)) _ _ _ _ (by first | exact hf | exact hf.below (Below.refl _ _).drew)).mono ?_); rintro e wq ⟨rfl, hwq⟩; have stq := St.step (W := V7) (by with_reducible assumption) hwq)
              )) | fail "r7"
          all_goals
            go_wp2
            go_meet
          all_goals exact ⟨by first | rfl | simp [hcs], stq.ext⟩
        · have hc2n : ¬ c2 = 0 := by rw [← HC2.out]; unfold sgn3; split <;> (try split) <;> omega
          obtain rfl : true = bad := (HBAD.out.2 (Or.inr (fun h => hg1 (HG.out.symm.trans h)))).symm
          have hc2b : (c2 != 0) = true := by simpa using hc2n
          clear hg1
          first | (go_region_held3 (fun wx => ((wx.cell? ⟨B + 2, 0, none⟩ = some (.bool rn) ∧ wx.cell? ⟨B + 2, 1, none⟩ = some (.slice ro rk rc)) ∧ (wx.cell? ⟨B + 3, 0, none⟩ = some (.bool vn) ∧ wx.cell? ⟨B + 3, 1, none⟩ = some (.slice vo vk vc))) ∧ ((wx.cell? ⟨G, 0, none⟩ = some (.bool bn) ∧ wx.cell? ⟨G, 1, none⟩ = some (.slice bo bk bc)) ∧ (wx.cell? ⟨H, 0, none⟩ = some (.bool jn) ∧ wx.cell? ⟨H, 1, none⟩ = some (.slice jo jk jc))))
            (first | exact HC.out _ (by exact St.ext (by with_reducible assumption)))
            (first
              | (go_at_call 44; refine (CAB.out _ (by exact St.ext (by assumption))).mono ?_; rintro e wn ⟨en, eo, ek, ec, rfl, he, hwn⟩; have stn := St.step (W := V7) (by with_reducible assumption) hwn)
              | (go_at_call 28; (with_reducible refine (CC1.out _ (by exact St.ext (by assumption)) _ _ _ _ (by first | exact he | exact he.below (Below.refl _ _).drew)).mono ?_); rintro e wm ⟨rfl, hwm⟩; have stm := St.step (W := V7) (by with_reducible assumption) hwm)
              | (go_at_call 45; refine (CG.out _ (by exact St.ext (by assumption))).mono ?_; rintro e wp ⟨fn, fo, fk, fc, rfl, hf, hwp⟩; have stp := St.step (W := V7) (by with_reducible assumption) hwp)
              | (go_at_call 28; (with_reducible refine (CC2.out _ (by exact St.ext (by assumption)) _ _ _ _ (by first | exact hf | exact hf.below (Below.refl _ _).drew)).mono ?_); rintro e wq ⟨rfl, hwq⟩; have stq := St.step (W := V7) (by with_reducible assumption) hwq)
              )) | fail "r7"
          all_goals
            go_wp2
            go_meet
          all_goals exact ⟨by first | rfl | simp [hc2b] | simp [hc2n] | simp [hcs, hc2n], stq.ext⟩
    case rest =>
      obtain ⟨rfl, hE⟩ := hcut
      have hz1 := hz1.below hE
      have hz2 := hz2.below hE
      have hRn := hRn.below hE
      have hTn := hTn.below hE
      have HBel := Lib.hid (HBel.out.trans (Below.mono hE (by have := HBz.out; omega)))
      have HBz := Lib.hid (Nat.le_trans HBz.out (Below.size hE))
      clear hxb hxj hSn hJ HC CAB CC1 std stn k0 k1 l0 l1 p0 p1 q0 q1 hE hc HBT
      obtain ⟨wq, hwq⟩ : ∃ wq, wq = wc := ⟨wc, rfl⟩
      subst hwq
      cases bad with
      | false =>
        have HNB := Lib.hid (show ¬ ratBad M R1 R2 from fun h => by cases HBAD.out.2 h)
        clear HBAD
        obtain ⟨sg, hsg⟩ : ∃ sg, sgn3 R2 0 = sg := ⟨_, rfl⟩
        have CS := Lib.hid (sign_any vn vo vk vc R2 wq (hTn.bg (by omega)))
        rw [hsg] at CS
        have k0 := hz2.c0
        have k1 := hz2.c1
        go_wp2_with fail
        refine CS.out.mono ?_
        rintro e w8 ⟨rfl, hE⟩
        have hz1 := hz1.below hE
        have hz2 := hz2.below hE
        have hRn := hRn.below hE
        have hTn := hTn.below hE
        have HBel := Lib.hid (HBel.out.trans (Below.mono hE (by have := HBz.out; omega)))
        have HBz := Lib.hid (Nat.le_trans HBz.out (Below.size hE))
        clear k0 k1 CS hE
        by_cases hneg : R2 < 0
        · obtain rfl : -1 = sg := by rw [← hsg]; unfold sgn3; rw [if_pos hneg]
          have h1 := HO.out
          rw [ratOut_neg (by have := HM0.out; omega) HR.out HNB.out hneg] at h1
          obtain ⟨rfl, rfl, rfl⟩ := three_inj h1
          clear h1 hsg hneg
          have hza := hz1
          have hzb := hz2
          have k0 := hz1.c0
          have k1 := hz1.c1
          have l0 := hz2.c0
          have l1 := hz2.c1
          go_upto_region 10 with fail
          go_region_with (first
            | (go_at_call 46; (with_reducible refine (neg_any rn ro rk rc R1 _ (by exact (hRn.bg (by omega)).below (by first | exact (Below.refl _ _).drew | exact Ext.refl _))).mono ?_); rintro e w9 ⟨an, ao, ak, ac, rfl, ha, hw9⟩; have ex1 : Ext w8 w9 := Ext.trans (by first | exact (Below.refl _ _).drew | exact Ext.refl _) hw9; clear k0 k1 l0 l1; have c1 := hz1.below ex1; have c2 := hz2.below ex1; have k0 := c1.c0; have k1 := c1.c1; have l0 := c2.c0; have l1 := c2.c1)
            | (go_at_call 46; refine (neg_any vn vo vk vc R2 _ (by exact (hTn.bg (by omega)).below ex1)).mono ?_; rintro e wr ⟨yn, yo, yk, yc, rfl, hd, hwr⟩; have ex2 : Ext w8 wr := ex1.trans hwr; clear k0 k1 l0 l1; have c3 := hz1.below ex2; have c4 := hz2.below ex2; have k0 := c3.c0; have k1 := c3.c1; have k2 := c3.f 0; have k3 := c3.f 1; have l0 := c4.c0; have l1 := c4.c1; have l2 := c4.f 0; have l3 := c4.f 1))
          all_goals
            obtain ⟨y1, y2, y3, y4, y5⟩ := two_set (xn := an) (xo := ao) (xk := ak) (xc := ac) (yn := yn) (yo := yo) (yk := yk) (yc := yc) c3 c4 (by omega)
            have HBel := Lib.hid (Below.trans (HBel.out.trans (ex2.mono (by have := HBz.out; omega))) (y3 B (by omega) (by omega)))
            have HZ1 := Lib.hid y1
            have HZ2 := Lib.hid y2
            have HA := Lib.hid (bn_tr y4 (ha.below hwr))
            have HD := Lib.hid (bn_tr y4 hd)
            clear y1 y2 y3 y4 y5 c1 c2 c3 c4 ex1 ex2 ha hd hwr hw9 hz1 hz2 hRn hTn
            go_upto_region 11 with fail
            clear k0 k1 k2 k3 l0 l1 l2 l3
            generalize ((((wr.setCell ⟨B + 2, 0, none⟩ (.bool an)).setCell ⟨B + 2, 1, none⟩ (.slice ao ak ac)).setCell ⟨B + 3, 0, none⟩ (.bool yn)).setCell ⟨B + 3, 1, none⟩ (.slice yo yk yc)) = VA at *
            have hz1 := HZ1.out
            have hz2 := HZ2.out
            obtain ⟨y1, y2, y3, y4, y5⟩ := two_setd (xn := an) (xo := ao) (xk := ak) (xc := ac) (yn := yn) (yo := yo) (yk := yk) (yc := yc) hz1 hz2 (by omega)
            have z0 := y1.c0
            have z1 := y1.c1
            have z2 := y2.c0
            have z3 := y2.c1
            have HF := Lib.hid (And.intro (bn_tr y4 HA.out) (And.intro (bn_tr y4 HD.out) (Below.trans HBel.out (y3 B (by omega) (by omega)))))
            have k0 := hz1.c0
            have k1 := hz1.c1
            have k2 := hz1.f 0
            have k3 := hz1.f 1
            have l0 := hz2.c0
            have l1 := hz2.c1
            have l2 := hz2.f 0
            have l3 := hz2.f 1
            clear y1 y2 y3 y4 y5
            go_upto_region 11 with fail
            first | go_region | fail "r11"
            all_goals
              go_wp2
              refine bodyPost_ret (v := .tuple #[.agg #[.bool an, .slice ao ak ac], .agg #[.bool yn, .slice yo yk yc], .bool true]) (by simp [results, Tryz.results13, go_sem, z0, z1, z2, z3]) rfl ⟨_, _, _, _, _, _, _, _, rfl, HF.out.1, HF.out.2.1, by show Below _ _ _; rw [HBE.out]; exact HF.out.2.2⟩
        · have hsg0 : ¬ sg < 0 := by rw [← hsg]; unfold sgn3; rw [if_neg hneg]; split <;> omega
          have h1 := HO.out
          rw [ratOut_pos (by have := HM0.out; omega) HR.out HNB.out hneg] at h1
          obtain ⟨rfl, rfl, rfl⟩ := three_inj h1
          clear h1 hsg hneg
          obtain ⟨y1, y2, y3, y4, y5⟩ := two_setd (xn := rn) (xo := ro) (xk := rk) (xc := rc) (yn := vn) (yo := vo) (yk := vk) (yc := vc) hz1 hz2 (by omega)
          have z0 := y1.c0
          have z1 := y1.c1
          have z2 := y2.c0
          have z3 := y2.c1
          have HF := Lib.hid (And.intro (bn_tr y4 hRn) (And.intro (bn_tr y4 hTn) (Below.trans HBel.out (y3 B (by omega) (by omega)))))
          have k0 := hz1.c0
          have k1 := hz1.c1
          have k2 := hz1.f 0
          have k3 := hz1.f 1
          have l0 := hz2.c0
          have l1 := hz2.c1
          have l2 := hz2.f 0
          have l3 := hz2.f 1
          clear y1 y2 y3 y4 y5
          go_upto_region 11 with fail
          first | go_region | fail "r11"
          all_goals
            go_wp2
            refine bodyPost_ret (v := .tuple #[.agg #[.bool rn, .slice ro rk rc], .agg #[.bool vn, .slice vo vk vc], .bool true]) (by simp [results, Tryz.results13, go_sem, z0, z1, z2, z3]) rfl ⟨_, _, _, _, _, _, _, _, rfl, HF.out.1, HF.out.2.1, by show Below _ _ _; rw [HBE.out]; exact HF.out.2.2⟩
      | true =>
        have h1 := HO.out
        rw [ratOut_bad (by have := HM0.out; omega) HR.out (HBAD.out.1 rfl)] at h1
        obtain ⟨rfl, rfl, rfl⟩ := three_inj h1
        clear h1 hRn hTn HBAD
        obtain ⟨y1, y2, y3, y4, y5⟩ := two_set (xn := false) (xo := none) (xk := 0) (xc := 0) (yn := false) (yo := none) (yk := 0) (yc := 0) hz1 hz2 (by omega)
        have z0 := y1.c0
        have z1 := y1.c1
        have z2 := y2.c0
        have z3 := y2.c1
        have HF := Lib.hid (Below.trans HBel.out (y3 B (by omega) (by omega)))
        have p0 := hz1.c0
        have p1 := hz1.c1
        have p2 := hz1.f 0
        have p3 := hz1.f 1
        have q0 := hz2.c0
        have q1 := hz2.c1
        have q2 := hz2.f 0
        have q3 := hz2.f 1
        clear y1 y2 y3 y4 y5
        go_wp2
        refine bodyPost_ret (v := .tuple #[.agg #[.bool false, .slice none 0 0], .agg #[.bool false, .slice none 0 0], .bool false]) (by simp [results, Tryz.results13, go_sem, z0, z1, z2, z3]) rfl ⟨false, none, 0, 0, false, none, 0, 0, rfl, zero_bn' _, zero_bn' _, by show Below _ _ _; rw [HBE.out]; exact HF.out⟩
end Go.Proofs.YtlpclahlolhjfaaGreatDoor
