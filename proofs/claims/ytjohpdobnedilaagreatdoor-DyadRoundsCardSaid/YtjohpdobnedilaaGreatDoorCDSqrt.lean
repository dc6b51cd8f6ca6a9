/- What dyad.Sqrt does. -/
import Derived.Test.YtjohpdobnedilaaGreatDoorCDRootMath
import Derived.Test.YtjohpdobnedilaaGreatDoorGm
import Derived.Test.YtjohpdobnedilaaGreatDoorGh
import Derived.Test.YtjohpdobnedilaaGreatDoorGe
namespace Go.Proofs.YtjohpdobnedilaaGreatDoor
open Go.RowKit

theorem sgn3_zero_of {x y : Int} : sgn3 x y = 0 ↔ x = y := by unfold sgn3; split <;> (try split) <;> omega
theorem blen_down {x : Int} {k : Nat} : blen (x / 2 ^ k).natAbs ≤ blen x.natAbs - k ∨ x < 0 := by
  rcases Int.lt_or_le x 0 with h | h
  · right; exact h
  · left
    obtain ⟨a, rfl⟩ := Int.eq_ofNat_of_zero_le h
    have e : ((a : Int) / 2 ^ k).natAbs = a / 2 ^ k := by
      have : ((a : Int) / 2 ^ k) = ((a / 2 ^ k : Nat) : Int) := by rw [Int.natCast_ediv, Int.natCast_pow]; rfl
      rw [this]; exact Int.natAbs_natCast _
    rw [e, Int.natAbs_natCast]
    refine blen_le_of_lt ?_
    rw [Nat.div_lt_iff_lt_mul (Nat.pow_pos (by omega)), ← Nat.pow_add]
    exact Nat.lt_of_lt_of_le (blen_lt a) (Nat.pow_le_pow_right (by omega) (by omega))
theorem blen_shf_root {m sh b : Int} (hm : 0 ≤ m) (hb : (blen m.natAbs : Int) + sh ≤ b) (hb0 : 0 ≤ b) : (blen (shf m sh).natAbs : Int) ≤ b := by
  by_cases hs : 0 ≤ sh
  · have := blen_shf m sh
    omega
  · unfold shf
    rw [if_neg hs]
    rcases @blen_down m (-sh).toNat with h | h
    · omega
    · omega

set_option maxRecDepth 100000 in
set_option maxHeartbeats 8000000 in
theorem dsqrt_any (u : Value) (d : Dy) (p mode : Int) (w : World) (hu : Dg w u d) (hp800 : p ≤ 800) (hT : Table w) :
    Calls Tryz.prog 42 #[u, .int .i64 p, .int .i64 mode] w fun e w' => ∃ r, e = .returned r ∧ Dn w' r (dsqrt d p mode) ∧ Ext w w' := by
  have hu0 := hu
  obtain ⟨ub, un, uo, uk, uc, _, uf, rfl, -⟩ := hu0
  go_enter Tryz.func42, Tryz.ntmps42
  go_upto_region 1 with fail
  obtain ⟨W, hW, hB, hbx, hrx, hz⟩ := boxes_dd w ub un uo uk uc uf
  rw [← hW]
  clear hW
  have hu := hu.ext hB
  have HT := Lib.hid (hT.below hB)
  have HT0 := Lib.hid hT
  generalize hBe : w.heap.size = B at *
  have HBe := Lib.hid hBe; clear hBe hT
  have k0 := hbx.c0
  have k1 := hbx.c1
  have k2 := hbx.c2
  have k3 := hbx.c3
  go_wp2_with fail
  refine (dnormal_any _ _ _ hu HT.out).mono ?_
  rintro e w1 ⟨r, rfl, hr, hw1⟩
  obtain ⟨mbb, mb, mo, m, cb, me, rfl⟩ := hr.parts
  have b1 := hbx.below hw1
  have c1 := hrx.below hw1
  have hT1 := HT.out.below hw1
  obtain ⟨hB1, hB1'⟩ := bnext hB (by omega) hw1
  have ho := only_set4 w1 B (.bool mbb) (.bool mb) (.slice mo m cb) (.int .i64 me)
  have b2 := b1.stored mbb mb mo m cb me
  have c2 := c1.only ho (by omega)
  have hr2 := hr.only_dbox b1 ho
  have hB2 := hB1.trans (ho.below (Nat.le_refl B))
  have hT2 := (show Table w from HT0.out).below (w' := (((((w1.setCell ⟨B, 0, none⟩ (.bool mbb)).setCell ⟨B, 1, none⟩ (.bool mb)).setCell ⟨B, 2, none⟩ (.slice mo m cb)).setCell ⟨B, 3, none⟩ (.int .i64 me)))) (by rw [HBe.out]; exact hB2)
  have hz2 : B + 2 ≤ (((((w1.setCell ⟨B, 0, none⟩ (.bool mbb)).setCell ⟨B, 1, none⟩ (.bool mb)).setCell ⟨B, 2, none⟩ (.slice mo m cb)).setCell ⟨B, 3, none⟩ (.int .i64 me))).heap.size := by rw [ho.size]; have := hw1.size; omega
  have HT2 := Lib.hid hT2; clear hT2
  clear k0 k1 k2 k3 hT1 hu
  have k0 := b1.c0
  have k1 := b1.c1
  have k2 := b1.c2
  have k3 := b1.c3
  have f0 := b1.f 0
  have f1 := b1.f 1
  have f2 := b1.f 2
  have f3 := b1.f 3
  go_upto_region 2 with fail
  generalize (((w1.setCell ⟨B, 0, none⟩ (.bool mbb)).setCell ⟨B, 1, none⟩ (.bool mb)).setCell ⟨B, 2, none⟩ (.slice mo m cb)).setCell ⟨B, 3, none⟩ (.int .i64 me) = w2 at *
  clear k0 k1 k2 k3 f0 f1 f2 f3 ho b1 c1 hr hw1 HT
  have k0 := b2.c0
  have k1 := b2.c1
  have k2 := b2.c2
  have k3 := b2.c3
  cases d with
  | none =>
    obtain rfl := dn_none hr2
    have HD := Lib.hid (show dsqrt none p mode = none from rfl)
    go_wp2_with fail
    refine (bad_any _).mono ?_
    rintro e w4 ⟨rfl, hw4⟩
    have c4 := c2.below hw4
    obtain ⟨hB4, hB4'⟩ := bnext hB2 (by omega) hw4
    clear k0 k1 k2 k3
    have q0 := c4.c0
    have q1 := c4.c1
    have q2 := c4.c2
    have q3 := c4.c3
    have f0 := c4.f 0
    have f1 := c4.f 1
    have f2 := c4.f 2
    have f3 := c4.f 3
    have hres := dn_stored c4 (dn_bad _) w hB4 (Nat.le_succ B)
    have z3 := c4.stored true false none 0 0 0
    have z0 := z3.c0
    have z1 := z3.c1
    have z2 := z3.c2
    have z4 := z3.c3
    have HRES := Lib.hid hres; clear hres z3
    go_wp2
    refine bodyPost_ret (v := .agg #[.bool true, .bool false, .slice none 0 0, .int .i64 0]) (by simp [results, Tryz.results42, go_sem, z0, z1, z2, z4]) rfl ⟨_, rfl, ?_, ?_⟩
    · rw [HD.out]; exact HRES.out.1
    · show Below _ _ _; rw [HBe.out]; exact HRES.out.2
  | some q =>
    obtain ⟨x, e0⟩ := q
    obtain ⟨rfl, hme, hbn⟩ := dn_some hr2
    subst hme
    have HD0 := Lib.hid (show dsqrt (some (x, me)) p mode = if 1 ≤ p ∧ p ≤ 4096 ∧ 0 ≤ x then drd (rtail x (rsh x me p)) ((me - rsh x me p) / 2 - 1) p.toNat mode else none from rfl)
    have hnd := nd_blen hr2.1
    simp only [dm, dx, Option.getD_some] at hnd
    have hms : m ≤ 4096 := by
      rw [← hbn.sl.len]
      exact limbs_of_blen (by omega)
    have hxn := hbn.neg
    by_cases hp : 1 ≤ p
    · have HPB := Lib.hid (show decide (1 ≤ p ∧ p ≤ 4096) = true from decide_eq_true ⟨hp, by omega⟩)
      by_cases hx0 : x < 0
      · have hmb : mb = true := by rw [hxn]; exact decide_eq_true hx0
        have hdd := HD0.out
        rw [if_neg (by omega)] at hdd
        have HD := Lib.hid hdd
        subst hmb
        clear hdd hxn hx0
        go_wp2_with fail
        refine (isPrec_any _ _).mono ?_
        rintro e w3 ⟨rfl, rfl⟩
        rw [HPB.out]
        go_wp2_with fail
        refine (bad_any _).mono ?_
        rintro e w4 ⟨rfl, hw4⟩
        have c4 := c2.below hw4
        obtain ⟨hB4, hB4'⟩ := bnext hB2 (by omega) hw4
        clear k0 k1 k2 k3
        have q0 := c4.c0
        have q1 := c4.c1
        have q2 := c4.c2
        have q3 := c4.c3
        have f0 := c4.f 0
        have f1 := c4.f 1
        have f2 := c4.f 2
        have f3 := c4.f 3
        have hres := dn_stored c4 (dn_bad _) w hB4 (Nat.le_succ B)
        have z3 := c4.stored true false none 0 0 0
        have z0 := z3.c0
        have z1 := z3.c1
        have z2 := z3.c2
        have z4 := z3.c3
        have HRES := Lib.hid hres; clear hres z3
        go_wp2
        refine bodyPost_ret (v := .agg #[.bool true, .bool false, .slice none 0 0, .int .i64 0]) (by simp [results, Tryz.results42, go_sem, z0, z1, z2, z4]) rfl ⟨_, rfl, ?_, ?_⟩
        · rw [HD.out]; exact HRES.out.1
        · show Below _ _ _; rw [HBe.out]; exact HRES.out.2
      · have hmb : mb = false := by rw [hxn]; exact decide_eq_false hx0
        have hdd := HD0.out
        rw [if_pos ⟨hp, by omega, by omega⟩] at hdd
        subst hmb
        have hx0 : 0 ≤ x := by omega
        have hor := rsh_or x me p
        have hev := rsh_even x me p
        have hdef : rsh x me p = if (me - (2 * (p + 1) - (blen x.natAbs : Int))) % 2 = 0 then 2 * (p + 1) - (blen x.natAbs : Int) else 2 * (p + 1) - (blen x.natAbs : Int) + 1 := rfl
        obtain ⟨bl, hbl⟩ : ∃ bl, blen x.natAbs = bl := ⟨_, rfl⟩
        obtain ⟨sh, hsh⟩ : ∃ sh, rsh x me p = sh := ⟨_, rfl⟩
        rw [hbl] at hor hdef
        rw [hsh] at hor hev hdef hdd
        have hbs := blen_shf_root (m := x) (sh := sh) (b := 2 * p + 3) hx0 (by rw [hbl]; omega) (by omega)
        have hS0 := shf_nonneg (s := sh) hx0
        have hrt : rtail x sh = 2 * (isq (shf x sh).toNat : Int) + if decide (sh < 0) || decide ((isq (shf x sh).toNat : Int) * (isq (shf x sh).toNat : Int) ≠ shf x sh) then 1 else 0 := rfl
        rw [hrt] at hdd
        have HD := Lib.hid hdd
        have HBL := Lib.hid hbl
        have HBN := Lib.hid hbn
        have hb0 : bl ≤ 131072 := by rw [← hbl]; exact hnd.1
        clear hdd hxn hrt hsh hbl hr2 HD0
        obtain ⟨sb, hsb⟩ : ∃ sb : Int, 2 * (p + 1) - (bl : Int) = sb := ⟨_, rfl⟩
        have w1' : IntKind.i64.wrap (p + 1) = p + 1 := IntWalk.i64_in _ ⟨by omega, by omega⟩
        have w2' : IntKind.i64.wrap (2 * (p + 1)) = 2 * (p + 1) := IntWalk.i64_in _ ⟨by omega, by omega⟩
        have w3' : IntKind.i64.wrap (2 * (p + 1) - (bl : Int)) = sb := by rw [hsb]; exact IntWalk.i64_in _ ⟨by omega, by omega⟩
        have w4' : IntKind.i64.wrap (me - sb) = me - sb := IntWalk.i64_in _ ⟨by omega, by omega⟩
        go_wp2_with fail
        refine (isPrec_any _ _).mono ?_
        rintro e w3 ⟨rfl, rfl⟩
        rw [HPB.out]
        go_wp2_with fail
        refine (bitLenOut_any _ _ _ _ _ _ (HBN.out.bg (by omega))).mono ?_
        rintro e w4 ⟨rfl, hw4⟩
        rw [HBL.out]
        have b3 := b2.below hw4
        have c3 := c2.below hw4
        obtain ⟨hB3, hB3'⟩ := bnext hB2 (by omega) hw4
        have hbn3 := hbn.below hw4
        have hT3 := HT2.out.below hw4
        have hz3 := hw4.size
        clear k0 k1 k2 k3 b2 c2 hB2 hw4 hbn HBN HBL HPB
        have k0 := b3.c0
        have k1 := b3.c1
        have k2 := b3.c2
        have k3 := b3.c3
        have HT3 := Lib.hid hT3
        clear hT3
        have hT4 : Table w4 := HT3.out
        have hBl3 : B < w4.heap.size := by omega
        obtain ⟨tm, htm⟩ : ∃ tm : Int, (me - sb).tmod 2 = tm := ⟨_, rfl⟩
        have htm1 : (tm = 0 ↔ (me - sb) % 2 = 0) ∧ -2 < tm ∧ tm < 2 := by
          rw [← htm]
          have h1 := Int.tmod_lt_of_pos (me - sb) (show (0 : Int) < 2 by omega)
          have h2 := Int.lt_tmod_of_pos (me - sb) (show (0 : Int) < 2 by omega)
          have h3 := Int.mul_tdiv_add_tmod (me - sb) 2
          omega
        obtain ⟨htm2, htm3, htm4⟩ := htm1
        have w5' : IntKind.i64.wrap tm = tm := IntWalk.i64_in _ ⟨by omega, by omega⟩
        rw [hsb] at hdef
        have HDEF := Lib.hid hdef
        have HSB := Lib.hid hsb
        have HTM2 := Lib.hid htm2
        clear hdef htm2 hsb
        have hsh0 : -1000000 ≤ sh := by omega
        have hsh1 : sh ≤ 1000000 := by omega
        by_cases ho : tm = 0
        · have hnz : (tm != 0) = false := by rw [ho]; rfl
          have hshh : sb = sh := by rw [HDEF.out, if_pos (HTM2.out.1 ho)]
          subst hshh
          clear ho
          obtain ⟨S, hS⟩ : ∃ S, shf x sb = S := ⟨_, rfl⟩
          rw [hS] at hbs hS0 HD
          have HS := Lib.hid hS
          clear hS
          have hev2 : (me - sb) % 2 = 0 := hev
          go_wp2_with fail
          refine (shift_any _ _ _ _ _ sb _ (hbn3.bg (by omega)) hsh0 hsh1 hT4).mono ?_
          rintro e w5 ⟨an, ao', al, ac, rfl, hA, hw5⟩
          rw [HS.out] at hA
          have b4 := b3.below hw5
          have c4 := c3.below hw5
          obtain ⟨hB4, hB4'⟩ := bnext hB3 (by omega) hw5
          have hT5 := hT4.below hw5
          have hz4 := hw5.size
          clear k0 k1 k2 k3 b3 c3 hB3 hw5 hbn3
          go_upto_region 8 with fail
          obtain ⟨V1, hV, hv1, e1, hz5⟩ := box_new w5 an ao' al ac
          rw [← hV]
          clear hV
          have b5 := b4.below hv1
          have c5 := c4.below hv1
          obtain ⟨hB5, hB5'⟩ := bnext hB4 (by omega) hv1
          have hT6 := hT5.below hv1
          have hA1 := hA.below hv1
          have hD1 : B + 2 ≤ w5.heap.size := by omega
          generalize w5.heap.size = D1 at *
          have hal : al ≤ 150 := by
            rw [← hA1.sl.len]
            exact limbs_of_blen (a := S.natAbs) (k := 150) (by omega)
          clear b4 c4 hB4 hT5 hv1 hA
          have m0 := e1.c0
          have m1 := e1.c1
          go_wp2_with fail
          refine (sqrt_any _ _ _ _ _ _ (hA1.bg (by omega)) hal hS0).mono ?_
          rintro e w6 ⟨rn, ro, rk, rc, R0, rfl, hR, hR1, hR2, hw6⟩
          have hR0 : R0 = isq S.toNat := by
            have h1 : S.natAbs = S.toNat := by omega
            rw [h1] at hR1 hR2
            exact isq_of hR1 hR2
          have b6 := b5.below hw6
          have c6 := c5.below hw6
          have e6 := e1.below hw6
          obtain ⟨hB6, hB6'⟩ := bnext hB5 (by omega) hw6
          have hT7 := hT6.below hw6
          have hA6 := hA1.below hw6
          have hz6 := hw6.size
          clear m0 m1 b5 c5 e1 hB5 hT6 hA1 hw6
          go_upto_region 9 with fail
          obtain ⟨V2, hV, hv2, e2, hz7⟩ := box_new w6 rn ro rk rc
          rw [← hV]
          clear hV
          have b7 := b6.below hv2
          have c7 := c6.below hv2
          have e7 := e6.below hv2
          obtain ⟨hB7, hB7'⟩ := bnext hB6 (by omega) hv2
          have HT8 := Lib.hid (hT7.below hv2)
          have hA7 := hA6.below hv2
          have hR7 := hR.below hv2
          have hD2 : D1 + 1 ≤ w6.heap.size := by have := e6.lt; omega
          generalize w6.heap.size = D2 at *
          clear b6 c6 e6 hB6 hT7 hA6 hR hv2
          have hblR : blen ((R0 : Int)).natAbs ≤ blen S.natAbs := by
            rw [Int.natAbs_natCast]
            refine blen_le_of_lt ?_
            have h1 := blen_lt S.natAbs
            have h2 : R0 ≤ S.natAbs := by
              rcases Nat.eq_zero_or_pos R0 with h | h
              · omega
              · have := Nat.le_mul_of_pos_left R0 h; omega
            exact Nat.lt_of_le_of_lt h2 h1
          have gA := bn_bg_of hA7 (by omega)
          have gR := bn_bg_of hR7 (by omega)
          have hrk : rk < 100 := by
            have : rk ≤ 99 := by
              rw [← hR7.sl.len]
              refine limbs_of_blen (k := 99) ?_
              omega
            omega
          obtain ⟨L, hL⟩ : ∃ L, (decide (sb < 0) || decide ((R0 : Int) * (R0 : Int) ≠ S)) = L := ⟨_, rfl⟩
          rw [← hR0, hL] at HD
          have HL := Lib.hid hL
          have m0 := e2.c0
          have m1 := e2.c1
          have n0 := e7.c0
          have n1 := e7.c1
          have HCC := Lib.hid (show ∀ wx, Ext V2 wx → (wx.cell? ⟨D2, 0, none⟩ = some (.bool rn) ∧ wx.cell? ⟨D2, 1, none⟩ = some (.slice ro rk rc)) ∧ wx.cell? ⟨D1, 0, none⟩ = some (.bool an) ∧ wx.cell? ⟨D1, 1, none⟩ = some (.slice ao' al ac) from fun wx h => ⟨⟨(e2.below h).c0, (e2.below h).c1⟩, (e7.below h).c0, (e7.below h).c1⟩)
          clear hL hR0
          go_cut [12] from 55 (fun q wx => q = .bool L ∧ Ext V2 wx)
          case first =>
            by_cases hs0 : sb < 0
            · have hd0 : decide (sb < 0) = true := decide_eq_true hs0
              have HLB := Lib.hid (show L = true from by rw [← HL.out, hd0]; rfl)
              clear hs0
              go_quiet (fail)
              go_wp2
              go_meet
              exact ⟨by rw [HLB.out], by first | exact Ext.refl _ | exact (Below.refl _ _).drew | exact below_drewN (Below.refl _ _) _⟩
            · have hd0 : decide (sb < 0) = false := decide_eq_false hs0
              obtain ⟨sr, hsr⟩ : ∃ sr, sgn3 ((R0 : Int) * (R0 : Int)) S = sr := ⟨_, rfl⟩
              have hlb : L = (sr != 0) := by
                rw [← HL.out, hd0, Bool.false_or, ← hsr, Bool.eq_iff_iff, decide_eq_true_iff, bne_iff_ne]
                exact not_congr sgn3_zero_of.symm
              have HLB := Lib.hid hlb
              have HSR := Lib.hid hsr
              clear hs0 hlb hsr
              have e0 : Ext V2 V2.drew := (Below.refl _ _).drew
              go_region_held3 (fun wx => (wx.cell? ⟨D2, 0, none⟩ = some (.bool rn) ∧ wx.cell? ⟨D2, 1, none⟩ = some (.slice ro rk rc)) ∧ wx.cell? ⟨D1, 0, none⟩ = some (.bool an) ∧ wx.cell? ⟨D1, 1, none⟩ = some (.slice ao' al ac))
                (first | exact HCC.out _ (by assumption))
                (first
                  | (go_at_call 109; refine (mul_any _ _ _ _ _ _ _ _ _ _ _ (gR.below (by assumption)) (gR.below (by assumption)) (Or.inl hrk)).mono ?_; rintro e wn ⟨n2, o2, k2, c2, rfl, hM, hE1⟩; have e1 : Ext V2 wn := Ext.trans (by assumption) hE1)
                  | (go_at_call 108; refine (cmp_any _ _ _ _ _ _ _ _ _ _ _ (bn_bg_of (hM.below (by first | exact Ext.refl _ | exact hE1)) (by have := blen_mul_le (R0 : Int) (R0 : Int); omega)) (gA.below (by assumption))).mono ?_; rintro e wk ⟨rfl, hE2⟩; rw [HSR.out]; have e2' : Ext V2 wk := Ext.trans (by assumption) hE2))
              all_goals
                have EF : Ext V2 wk := by assumption
                go_wp2
                go_meet
              all_goals
                exact ⟨by rw [HLB.out], EF⟩
          case rest =>
            obtain ⟨rfl, hE⟩ := hcut
            have b8 := b7.below hE
            have c8 := c7.below hE
            have e8 := e2.below hE
            obtain ⟨hB8, hB8'⟩ := bnext hB7 (by omega) hE
            have HT9 := Lib.hid (HT8.out.below hE)
            have gR8 := gR.below hE
            clear m0 m1 n0 n1 b7 c7 e2 e7 hB7 hE gA HCC
            have m0 := e8.c0
            have m1 := e8.c1
            have k3 := b8.c3
            obtain ⟨g, hg⟩ : ∃ g : Int, (me - sb) / 2 = g := ⟨_, rfl⟩
            rw [hg] at HD
            have htd : (me - sb).tdiv 2 = g := by
              have h1 : me - sb = 2 * g := by omega
              rw [h1]; exact Int.mul_tdiv_cancel_left _ (by omega)
            have wA : IntKind.i64.wrap (me - sb) = me - sb := IntWalk.i64_in _ ⟨by omega, by omega⟩
            have wB : IntKind.i64.wrap g = g := IntWalk.i64_in _ ⟨by omega, by omega⟩
            have wC : IntKind.i64.wrap (g - 1) = g - 1 := IntWalk.i64_in _ ⟨by omega, by omega⟩
            have hg0 : -1000000000 ≤ g - 1 := by omega
            have hg1 : g - 1 ≤ 1000000000 := by omega
            have htb : blen (2 * (R0 : Int) + if L then 1 else 0).natAbs ≤ 500000 := by
              have h1 := blen_add (2 * (R0 : Int)) (if L then 1 else 0)
              have h2 := blen_two (R0 : Int)
              rw [Int.mul_comm] at h2
              have h3 : blen (if L then (1 : Int) else 0).natAbs ≤ 1 := by cases L <;> decide
              omega
            have hRb : blen ((R0 : Int)).natAbs ≤ 900000 := by omega
            have HDD := Lib.hid HD.out
            have hz9 := c8.lt
            clear hg hev hev2 HD hblR hbs
            obtain ⟨NN, hNN⟩ : ∃ NN, 2 * (R0 : Int) + (if L then 1 else 0) = NN := ⟨_, rfl⟩
            rw [hNN] at htb HDD
            have HNN := Lib.hid hNN
            clear hNN
            go_upto_region 10 with fail
            go_region_with (first
              | (go_at_call 106; refine (withTail_any _ _ _ _ _ _ _ (gR8.below (by first | exact (Below.refl _ _).drew | exact Ext.refl _)) hRb).mono ?_; rintro e w10 ⟨⟨tn, tp, tl, tc, rfl, ht⟩, hw10⟩; rw [HNN.out] at ht; have ex1 : Ext wc w10 := Ext.trans (by first | exact (Below.refl _ _).drew | exact Ext.refl _) hw10; have k3' := (b8.below ex1).c3)
              | (go_at_call 100; refine (rounded_int _ _ _ _ _ _ _ _ _ (bn_bg_of ht (by omega)) (by omega) hg0 hg1 (by omega) hp (HT9.out.below ex1)).mono ?_; rintro e w12 ⟨r, rfl, hr, hw12⟩; have ex2 : Ext wc w12 := ex1.trans hw12; obtain ⟨rb, rn2, ro2, rk2, rc2, re, rfl⟩ := hr.parts; have c9 := c8.below ex2; have q0 := c9.c0; have q1 := c9.c1; have q2 := c9.c2; have q3 := c9.c3; have f0 := c9.f 0; have f1 := c9.f 1; have f2 := c9.f 2; have f3 := c9.f 3))
            all_goals
              obtain ⟨hB9, hB9'⟩ := bnext hB8 (by omega) ex2
              rw [← HDD.out] at hr
              have hres := dn_stored c9 hr w hB9 (by omega)
              have z3 := c9.stored rb rn2 ro2 rk2 rc2 re
              have z0 := z3.c0
              have z1 := z3.c1
              have z2 := z3.c2
              have z4 := z3.c3
              have HRES := Lib.hid hres
              clear hres z3 c9
              go_wp2
              refine bodyPost_ret (v := .agg #[.bool rb, .bool rn2, .slice ro2 rk2 rc2, .int .i64 re]) (by simp [results, Tryz.results42, go_sem, z0, z1, z2, z4]) rfl ⟨_, rfl, ?_, ?_⟩
              · exact HRES.out.1
              · show Below _ _ _
                rw [HBe.out]
                exact HRES.out.2
        · have hnz : (tm != 0) = true := bne_iff_ne.2 ho
          have hshh : sb + 1 = sh := by rw [HDEF.out, if_neg (fun h => ho (HTM2.out.2 h))]
          have w6' : IntKind.i64.wrap (sb + 1) = sh := by rw [hshh]; exact IntWalk.i64_in _ ⟨by omega, by omega⟩
          have HSHH := Lib.hid hshh
          clear ho hshh
          obtain ⟨S, hS⟩ : ∃ S, shf x sh = S := ⟨_, rfl⟩
          rw [hS] at hbs hS0 HD
          have HS := Lib.hid hS
          clear hS
          have hev2 : (me - sh) % 2 = 0 := hev
          go_wp2_with fail
          refine (shift_any _ _ _ _ _ sh _ (hbn3.bg (by omega)) hsh0 hsh1 hT4).mono ?_
          rintro e w5 ⟨an, ao', al, ac, rfl, hA, hw5⟩
          rw [HS.out] at hA
          have b4 := b3.below hw5
          have c4 := c3.below hw5
          obtain ⟨hB4, hB4'⟩ := bnext hB3 (by omega) hw5
          have hT5 := hT4.below hw5
          have hz4 := hw5.size
          clear k0 k1 k2 k3 b3 c3 hB3 hw5 hbn3
          go_upto_region 8 with fail
          obtain ⟨V1, hV, hv1, e1, hz5⟩ := box_new w5 an ao' al ac
          rw [← hV]
          clear hV
          have b5 := b4.below hv1
          have c5 := c4.below hv1
          obtain ⟨hB5, hB5'⟩ := bnext hB4 (by omega) hv1
          have hT6 := hT5.below hv1
          have hA1 := hA.below hv1
          have hD1 : B + 2 ≤ w5.heap.size := by omega
          generalize w5.heap.size = D1 at *
          have hal : al ≤ 150 := by
            rw [← hA1.sl.len]
            exact limbs_of_blen (a := S.natAbs) (k := 150) (by omega)
          clear b4 c4 hB4 hT5 hv1 hA
          have m0 := e1.c0
          have m1 := e1.c1
          go_wp2_with fail
          refine (sqrt_any _ _ _ _ _ _ (hA1.bg (by omega)) hal hS0).mono ?_
          rintro e w6 ⟨rn, ro, rk, rc, R0, rfl, hR, hR1, hR2, hw6⟩
          have hR0 : R0 = isq S.toNat := by
            have h1 : S.natAbs = S.toNat := by omega
            rw [h1] at hR1 hR2
            exact isq_of hR1 hR2
          have b6 := b5.below hw6
          have c6 := c5.below hw6
          have e6 := e1.below hw6
          obtain ⟨hB6, hB6'⟩ := bnext hB5 (by omega) hw6
          have hT7 := hT6.below hw6
          have hA6 := hA1.below hw6
          have hz6 := hw6.size
          clear m0 m1 b5 c5 e1 hB5 hT6 hA1 hw6
          go_upto_region 9 with fail
          obtain ⟨V2, hV, hv2, e2, hz7⟩ := box_new w6 rn ro rk rc
          rw [← hV]
          clear hV
          have b7 := b6.below hv2
          have c7 := c6.below hv2
          have e7 := e6.below hv2
          obtain ⟨hB7, hB7'⟩ := bnext hB6 (by omega) hv2
          have HT8 := Lib.hid (hT7.below hv2)
          have hA7 := hA6.below hv2
          have hR7 := hR.below hv2
          have hD2 : D1 + 1 ≤ w6.heap.size := by have := e6.lt; omega
          generalize w6.heap.size = D2 at *
          clear b6 c6 e6 hB6 hT7 hA6 hR hv2
          have hblR : blen ((R0 : Int)).natAbs ≤ blen S.natAbs := by
            rw [Int.natAbs_natCast]
            refine blen_le_of_lt ?_
            have h1 := blen_lt S.natAbs
            have h2 : R0 ≤ S.natAbs := by
              rcases Nat.eq_zero_or_pos R0 with h | h
              · omega
              · have := Nat.le_mul_of_pos_left R0 h; omega
            exact Nat.lt_of_le_of_lt h2 h1
          have gA := bn_bg_of hA7 (by omega)
          have gR := bn_bg_of hR7 (by omega)
          have hrk : rk < 100 := by
            have : rk ≤ 99 := by
              rw [← hR7.sl.len]
              refine limbs_of_blen (k := 99) ?_
              omega
            omega
          obtain ⟨L, hL⟩ : ∃ L, (decide (sh < 0) || decide ((R0 : Int) * (R0 : Int) ≠ S)) = L := ⟨_, rfl⟩
          rw [← hR0, hL] at HD
          have HL := Lib.hid hL
          have m0 := e2.c0
          have m1 := e2.c1
          have n0 := e7.c0
          have n1 := e7.c1
          have HCC := Lib.hid (show ∀ wx, Ext V2 wx → (wx.cell? ⟨D2, 0, none⟩ = some (.bool rn) ∧ wx.cell? ⟨D2, 1, none⟩ = some (.slice ro rk rc)) ∧ wx.cell? ⟨D1, 0, none⟩ = some (.bool an) ∧ wx.cell? ⟨D1, 1, none⟩ = some (.slice ao' al ac) from fun wx h => ⟨⟨(e2.below h).c0, (e2.below h).c1⟩, (e7.below h).c0, (e7.below h).c1⟩)
          clear hL hR0
          go_cut [12] from 55 (fun q wx => q = .bool L ∧ Ext V2 wx)
          case first =>
            by_cases hs0 : sh < 0
            · have hd0 : decide (sh < 0) = true := decide_eq_true hs0
              have HLB := Lib.hid (show L = true from by rw [← HL.out, hd0]; rfl)
              clear hs0
              go_quiet (fail)
              go_wp2
              go_meet
              exact ⟨by rw [HLB.out], by first | exact Ext.refl _ | exact (Below.refl _ _).drew | exact below_drewN (Below.refl _ _) _⟩
            · have hd0 : decide (sh < 0) = false := decide_eq_false hs0
              obtain ⟨sr, hsr⟩ : ∃ sr, sgn3 ((R0 : Int) * (R0 : Int)) S = sr := ⟨_, rfl⟩
              have hlb : L = (sr != 0) := by
                rw [← HL.out, hd0, Bool.false_or, ← hsr, Bool.eq_iff_iff, decide_eq_true_iff, bne_iff_ne]
                exact not_congr sgn3_zero_of.symm
              have HLB := Lib.hid hlb
              have HSR := Lib.hid hsr
              clear hs0 hlb hsr
              have e0 : Ext V2 V2.drew := (Below.refl _ _).drew
              go_region_held3 (fun wx => (wx.cell? ⟨D2, 0, none⟩ = some (.bool rn) ∧ wx.cell? ⟨D2, 1, none⟩ = some (.slice ro rk rc)) ∧ wx.cell? ⟨D1, 0, none⟩ = some (.bool an) ∧ wx.cell? ⟨D1, 1, none⟩ = some (.slice ao' al ac))
                (first | exact HCC.out _ (by assumption))
                (first
                  | (go_at_call 109; refine (mul_any _ _ _ _ _ _ _ _ _ _ _ (gR.below (by assumption)) (gR.below (by assumption)) (Or.inl hrk)).mono ?_; rintro e wn ⟨n2, o2, k2, c2, rfl, hM, hE1⟩; have e1 : Ext V2 wn := Ext.trans (by assumption) hE1)
                  | (go_at_call 108; refine (cmp_any _ _ _ _ _ _ _ _ _ _ _ (bn_bg_of (hM.below (by first | exact Ext.refl _ | exact hE1)) (by have := blen_mul_le (R0 : Int) (R0 : Int); omega)) (gA.below (by assumption))).mono ?_; rintro e wk ⟨rfl, hE2⟩; rw [HSR.out]; have e2' : Ext V2 wk := Ext.trans (by assumption) hE2))
              all_goals
                have EF : Ext V2 wk := by assumption
                go_wp2
                go_meet
              all_goals
                exact ⟨by rw [HLB.out], EF⟩
          case rest =>
            obtain ⟨rfl, hE⟩ := hcut
            have b8 := b7.below hE
            have c8 := c7.below hE
            have e8 := e2.below hE
            obtain ⟨hB8, hB8'⟩ := bnext hB7 (by omega) hE
            have HT9 := Lib.hid (HT8.out.below hE)
            have gR8 := gR.below hE
            clear m0 m1 n0 n1 b7 c7 e2 e7 hB7 hE gA HCC
            have m0 := e8.c0
            have m1 := e8.c1
            have k3 := b8.c3
            obtain ⟨g, hg⟩ : ∃ g : Int, (me - sh) / 2 = g := ⟨_, rfl⟩
            rw [hg] at HD
            have htd : (me - sh).tdiv 2 = g := by
              have h1 : me - sh = 2 * g := by omega
              rw [h1]; exact Int.mul_tdiv_cancel_left _ (by omega)
            have wA : IntKind.i64.wrap (me - sh) = me - sh := IntWalk.i64_in _ ⟨by omega, by omega⟩
            have wB : IntKind.i64.wrap g = g := IntWalk.i64_in _ ⟨by omega, by omega⟩
            have wC : IntKind.i64.wrap (g - 1) = g - 1 := IntWalk.i64_in _ ⟨by omega, by omega⟩
            have hg0 : -1000000000 ≤ g - 1 := by omega
            have hg1 : g - 1 ≤ 1000000000 := by omega
            have htb : blen (2 * (R0 : Int) + if L then 1 else 0).natAbs ≤ 500000 := by
              have h1 := blen_add (2 * (R0 : Int)) (if L then 1 else 0)
              have h2 := blen_two (R0 : Int)
              rw [Int.mul_comm] at h2
              have h3 : blen (if L then (1 : Int) else 0).natAbs ≤ 1 := by cases L <;> decide
              omega
            have hRb : blen ((R0 : Int)).natAbs ≤ 900000 := by omega
            have HDD := Lib.hid HD.out
            have hz9 := c8.lt
            clear hg hev hev2 HD hblR hbs
            obtain ⟨NN, hNN⟩ : ∃ NN, 2 * (R0 : Int) + (if L then 1 else 0) = NN := ⟨_, rfl⟩
            rw [hNN] at htb HDD
            have HNN := Lib.hid hNN
            clear hNN
            go_upto_region 10 with fail
            go_region_with (first
              | (go_at_call 106; refine (withTail_any _ _ _ _ _ _ _ (gR8.below (by first | exact (Below.refl _ _).drew | exact Ext.refl _)) hRb).mono ?_; rintro e w10 ⟨⟨tn, tp, tl, tc, rfl, ht⟩, hw10⟩; rw [HNN.out] at ht; have ex1 : Ext wc w10 := Ext.trans (by first | exact (Below.refl _ _).drew | exact Ext.refl _) hw10; have k3' := (b8.below ex1).c3)
              | (go_at_call 100; refine (rounded_int _ _ _ _ _ _ _ _ _ (bn_bg_of ht (by omega)) (by omega) hg0 hg1 (by omega) hp (HT9.out.below ex1)).mono ?_; rintro e w12 ⟨r, rfl, hr, hw12⟩; have ex2 : Ext wc w12 := ex1.trans hw12; obtain ⟨rb, rn2, ro2, rk2, rc2, re, rfl⟩ := hr.parts; have c9 := c8.below ex2; have q0 := c9.c0; have q1 := c9.c1; have q2 := c9.c2; have q3 := c9.c3; have f0 := c9.f 0; have f1 := c9.f 1; have f2 := c9.f 2; have f3 := c9.f 3))
            all_goals
              obtain ⟨hB9, hB9'⟩ := bnext hB8 (by omega) ex2
              rw [← HDD.out] at hr
              have hres := dn_stored c9 hr w hB9 (by omega)
              have z3 := c9.stored rb rn2 ro2 rk2 rc2 re
              have z0 := z3.c0
              have z1 := z3.c1
              have z2 := z3.c2
              have z4 := z3.c3
              have HRES := Lib.hid hres
              clear hres z3 c9
              go_wp2
              refine bodyPost_ret (v := .agg #[.bool rb, .bool rn2, .slice ro2 rk2 rc2, .int .i64 re]) (by simp [results, Tryz.results42, go_sem, z0, z1, z2, z4]) rfl ⟨_, rfl, ?_, ?_⟩
              · exact HRES.out.1
              · show Below _ _ _
                rw [HBe.out]
                exact HRES.out.2
    · have HPB := Lib.hid (show decide (1 ≤ p ∧ p ≤ 4096) = false from decide_eq_false (by omega))
      have hdd := HD0.out
      rw [if_neg (by omega)] at hdd
      have HD := Lib.hid hdd
      clear hdd hxn
      go_wp2_with fail
      refine (isPrec_any _ _).mono ?_
      rintro e w3 ⟨rfl, rfl⟩
      rw [HPB.out]
      go_wp2_with fail
      refine (bad_any _).mono ?_
      rintro e w4 ⟨rfl, hw4⟩
      have c4 := c2.below hw4
      obtain ⟨hB4, hB4'⟩ := bnext hB2 (by omega) hw4
      clear k0 k1 k2 k3
      have q0 := c4.c0
      have q1 := c4.c1
      have q2 := c4.c2
      have q3 := c4.c3
      have f0 := c4.f 0
      have f1 := c4.f 1
      have f2 := c4.f 2
      have f3 := c4.f 3
      have hres := dn_stored c4 (dn_bad _) w hB4 (Nat.le_succ B)
      have z3 := c4.stored true false none 0 0 0
      have z0 := z3.c0
      have z1 := z3.c1
      have z2 := z3.c2
      have z4 := z3.c3
      have HRES := Lib.hid hres; clear hres z3
      go_wp2
      refine bodyPost_ret (v := .agg #[.bool true, .bool false, .slice none 0 0, .int .i64 0]) (by simp [results, Tryz.results42, go_sem, z0, z1, z2, z4]) rfl ⟨_, rfl, ?_, ?_⟩
      · rw [HD.out]; exact HRES.out.1
      · show Below _ _ _; rw [HBe.out]; exact HRES.out.2
end Go.Proofs.YtjohpdobnedilaaGreatDoor
