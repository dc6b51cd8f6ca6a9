/- What the reference's Sqrt of dyads does. -/
import Derived.Test.YtjohpdobnedilaaGreatDoorCRefDRoot
namespace Go.Proofs.YtjohpdobnedilaaGreatDoor
open Go Go.RowKit

theorem dsqrt_bad {d : Dy} {p mode : Int} (h : p < 1 ∨ 4096 < p) : dsqrt d p mode = none := by
  cases d with
  | none => rfl
  | some q => obtain ⟨m, e⟩ := q; show (if 1 ≤ p ∧ p ≤ 4096 ∧ 0 ≤ m then _ else none) = none; rw [if_neg (by omega)]
theorem dsqrt_neg {m e p mode : Int} (h : m < 0) : dsqrt (some (m, e)) p mode = none := by
  show (if 1 ≤ p ∧ p ≤ 4096 ∧ 0 ≤ m then _ else none) = none
  rw [if_neg (by omega)]
theorem dsqrt_rd {A : Nat} {e mode : Int} {P k : Nat} (hodd : A % 2 = 1) (h1 : 1 ≤ P ∧ P ≤ 4096) (hk : 2 * (P : Int) + 4 - (blen A : Int) ≤ (k : Nat)) (hev : (e - (k : Int)) % 2 = 0) :
    rdV false (isq (A * 2 ^ k)) ((e - (k : Int)) / 2) (decide (isq (A * 2 ^ k) * isq (A * 2 ^ k) ≠ A * 2 ^ k)) P mode = dsqrt (some ((A : Int), e)) (P : Int) mode := by
  rw [dsqrt_drd mode (Int.natCast_nonneg _) (by omega) (by omega), root_rd hodd (by omega) hk hev, Int.toNat_natCast]

set_option maxRecDepth 100000 in
set_option maxHeartbeats 4000000 in
theorem ref_dsqrt_any (u : Value) (d : Dy) (p mode : Int) (w : World) (hu : Dl w u d) (hT : Table w) :
    Calls Tryz.prog 43 #[u, .int .i64 p, .int .i64 mode] w fun e w' => ∃ r, e = .returned r ∧ Dn w' r (dsqrt d p mode) ∧ Ext w w' := by
  have hu0 := hu
  obtain ⟨ub, un, uo, uk, uc, _, uf, rfl, -⟩ := hu0
  have HTw := Lib.hid hT
  go_enter Tryz.func43, Tryz.ntmps43
  go_upto_region 1 with fail
  obtain ⟨W, hW, hB, hbx, hrx, hz⟩ := boxes_dd w ub un uo uk uc uf
  rw [← hW]
  clear hW
  have hu := hu.ext hB
  have HT := Lib.hid (hT.below hB)
  generalize hBe : w.heap.size = B at *
  have HBe := Lib.hid hBe; clear hBe hT
  have k0 := hbx.c0
  have k1 := hbx.c1
  have k2 := hbx.c2
  have k3 := hbx.c3
  go_wp2_with fail
  refine (refDNorm_any _ _ _ hu HT.out).mono ?_
  rintro e w1 ⟨r1, rfl, hr, hw1⟩
  have bx := hbx.below hw1
  have c1 := hrx.below hw1
  obtain ⟨hB1, hB1'⟩ := bnext hB (by omega) hw1
  have hz1 := hw1.size
  obtain ⟨xb, xn, xo, xk, xc, xe, rfl⟩ := hr.parts
  clear k0 k1 k2 k3 hbx hrx hB hw1 hu HT
  have k0 := bx.c0
  have k1 := bx.c1
  have k2 := bx.c2
  have k3 := bx.c3
  have f0 := bx.f 0
  have f1 := bx.f 1
  have f2 := bx.f 2
  have f3 := bx.f 3
  go_upto_region 2 with fail
  have ho := only_set4 w1 B (.bool xb) (.bool xn) (.slice xo xk xc) (.int .i64 xe)
  have hr := hr.only_dbox bx ho
  have bx := bx.stored xb xn xo xk xc xe
  have c1 := c1.only ho (by omega)
  have hB2 := hB1.trans (ho.below (B := B) (Nat.le_refl _))
  have hz2 := ho.size
  have hz3 : B + 2 ≤ ((((w1.setCell ⟨B, 0, none⟩ (.bool xb)).setCell ⟨B, 1, none⟩ (.bool xn)).setCell ⟨B, 2, none⟩ (.slice xo xk xc)).setCell ⟨B, 3, none⟩ (.int .i64 xe)).heap.size := by omega
  have hTf := HTw.out.below (w' := (((w1.setCell ⟨B, 0, none⟩ (.bool xb)).setCell ⟨B, 1, none⟩ (.bool xn)).setCell ⟨B, 2, none⟩ (.slice xo xk xc)).setCell ⟨B, 3, none⟩ (.int .i64 xe)) (by rw [HBe.out]; exact hB2)
  clear k0 k1 k2 k3 f0 f1 f2 f3 hB1 ho hz2
  generalize (((w1.setCell ⟨B, 0, none⟩ (.bool xb)).setCell ⟨B, 1, none⟩ (.bool xn)).setCell ⟨B, 2, none⟩ (.slice xo xk xc)).setCell ⟨B, 3, none⟩ (.int .i64 xe) = w2 at *
  have HT := Lib.hid hTf; clear hTf
  cases d with
  | none =>
    obtain rfl := dn_none hr
    clear HT
    have k0 := bx.c0
    have k1 := bx.c1
    have k2 := bx.c2
    have k3 := bx.c3
    have HV := Lib.hid (show dsqrt none p mode = none from rfl)
    go_wp2_with fail
    refine (refBad_any _).mono ?_
    rintro e wb ⟨rfl, hwb⟩
    have cb := c1.below hwb
    obtain ⟨hBb, hBb'⟩ := bnext hB2 (by omega) hwb
    have q0 := cb.c0
    have q1 := cb.c1
    have q2 := cb.c2
    have q3 := cb.c3
    have f0 := cb.f 0
    have f1 := cb.f 1
    have f2 := cb.f 2
    have f3 := cb.f 3
    have hres := dn_stored cb (dn_bad wb) w hBb (by omega)
    have z3 := cb.stored true false none 0 0 0
    have z0 := z3.c0
    have z1 := z3.c1
    have z2 := z3.c2
    have z4 := z3.c3
    have HRES := Lib.hid hres; clear hres z3
    go_wp2
    refine bodyPost_ret (v := .agg #[.bool true, .bool false, .slice none 0 0, .int .i64 0]) (by simp [results, Tryz.results43, go_sem, z0, z1, z2, z4]) rfl ⟨_, rfl, ?_, ?_⟩
    · first | exact HRES.out.1 | (rw [HV.out]; exact HRES.out.1)
    · show Below _ _ _; rw [HBe.out]; exact HRES.out.2
  | some q =>
    obtain ⟨m, f⟩ := q
    obtain ⟨rfl, rfl, hm⟩ := dn_some hr
    have HND := Lib.hid hr.1
    have hnx := nd_blen hr.1
    simp only [dm, dx, Option.getD_some] at hnx
    obtain ⟨hnx, hx0, hx1⟩ := hnx
    have gm := bn_bg_of hm (by omega)
    clear hm hr
    have k0 := bx.c0
    have k1 := bx.c1
    have k2 := bx.c2
    have k3 := bx.c3
    by_cases h1 : p < 1
    · have HV := Lib.hid (dsqrt_bad (d := some (m, xe)) (mode := mode) (Or.inl h1))
      go_wp2_with fail
      refine (refBad_any _).mono ?_
      rintro e wb ⟨rfl, hwb⟩
      have cb := c1.below hwb
      obtain ⟨hBb, hBb'⟩ := bnext hB2 (by omega) hwb
      have q0 := cb.c0
      have q1 := cb.c1
      have q2 := cb.c2
      have q3 := cb.c3
      have f0 := cb.f 0
      have f1 := cb.f 1
      have f2 := cb.f 2
      have f3 := cb.f 3
      have hres := dn_stored cb (dn_bad wb) w hBb (by omega)
      have z3 := cb.stored true false none 0 0 0
      have z0 := z3.c0
      have z1 := z3.c1
      have z2 := z3.c2
      have z4 := z3.c3
      have HRES := Lib.hid hres; clear hres z3
      go_wp2
      refine bodyPost_ret (v := .agg #[.bool true, .bool false, .slice none 0 0, .int .i64 0]) (by simp [results, Tryz.results43, go_sem, z0, z1, z2, z4]) rfl ⟨_, rfl, ?_, ?_⟩
      · first | exact HRES.out.1 | (rw [HV.out]; exact HRES.out.1)
      · show Below _ _ _; rw [HBe.out]; exact HRES.out.2
    · by_cases h2 : p > 4096
      · have HV := Lib.hid (dsqrt_bad (d := some (m, xe)) (mode := mode) (Or.inr h2))
        go_wp2_with fail
        refine (refBad_any _).mono ?_
        rintro e wb ⟨rfl, hwb⟩
        have cb := c1.below hwb
        obtain ⟨hBb, hBb'⟩ := bnext hB2 (by omega) hwb
        have q0 := cb.c0
        have q1 := cb.c1
        have q2 := cb.c2
        have q3 := cb.c3
        have f0 := cb.f 0
        have f1 := cb.f 1
        have f2 := cb.f 2
        have f3 := cb.f 3
        have hres := dn_stored cb (dn_bad wb) w hBb (by omega)
        have z3 := cb.stored true false none 0 0 0
        have z0 := z3.c0
        have z1 := z3.c1
        have z2 := z3.c2
        have z4 := z3.c3
        have HRES := Lib.hid hres; clear hres z3
        go_wp2
        refine bodyPost_ret (v := .agg #[.bool true, .bool false, .slice none 0 0, .int .i64 0]) (by simp [results, Tryz.results43, go_sem, z0, z1, z2, z4]) rfl ⟨_, rfl, ?_, ?_⟩
        · first | exact HRES.out.1 | (rw [HV.out]; exact HRES.out.1)
        · show Below _ _ _; rw [HBe.out]; exact HRES.out.2
      · obtain ⟨sg, hsg⟩ : ∃ sg, sgn3 m 0 = sg := ⟨_, rfl⟩
        have CS := refSign_any _ _ _ _ _ w2 gm
        rw [hsg] at CS
        have CS := Lib.hid CS
        have hsl : (decide (sg < 0)) = decide (m < 0) := by
          rw [← hsg]; unfold sgn3
          apply decide_eq_decide.2
          split
          · omega
          · split <;> omega
        by_cases h3 : m < 0
        · have HV := Lib.hid (dsqrt_neg (e := xe) (p := p) (mode := mode) h3)
          have hs0 : sg < 0 := by rw [decide_eq_true h3] at hsl; exact of_decide_eq_true hsl
          clear hsl hsg
          go_wp2_with fail
          refine CS.out.mono ?_
          rintro e w3 ⟨rfl, hw3⟩
          have c1 := c1.below hw3
          obtain ⟨hB2, hB2'⟩ := bnext hB2 (by omega) hw3
          clear k0 k1 k2 k3 CS
          go_wp2_with fail
          refine (refBad_any _).mono ?_
          rintro e wb ⟨rfl, hwb⟩
          have cb := c1.below hwb
          obtain ⟨hBb, hBb'⟩ := bnext hB2 (by omega) hwb
          have q0 := cb.c0
          have q1 := cb.c1
          have q2 := cb.c2
          have q3 := cb.c3
          have f0 := cb.f 0
          have f1 := cb.f 1
          have f2 := cb.f 2
          have f3 := cb.f 3
          have hres := dn_stored cb (dn_bad wb) w hBb (by omega)
          have z3 := cb.stored true false none 0 0 0
          have z0 := z3.c0
          have z1 := z3.c1
          have z2 := z3.c2
          have z4 := z3.c3
          have HRES := Lib.hid hres; clear hres z3
          go_wp2
          refine bodyPost_ret (v := .agg #[.bool true, .bool false, .slice none 0 0, .int .i64 0]) (by simp [results, Tryz.results43, go_sem, z0, z1, z2, z4]) rfl ⟨_, rfl, ?_, ?_⟩
          · first | exact HRES.out.1 | (rw [HV.out]; exact HRES.out.1)
          · show Below _ _ _; rw [HBe.out]; exact HRES.out.2
        · have hs0 : ¬ sg < 0 := by rw [decide_eq_false h3] at hsl; exact of_decide_eq_false hsl
          clear hsl
          go_wp2_with fail
          refine CS.out.mono ?_
          rintro e w3 ⟨rfl, hw3⟩
          have hw3 : Ext w2 w3 := hw3
          have bx := bx.ext hw3
          have c1 := c1.ext hw3
          have gm := gm.below hw3
          have HT := Lib.hid (HT.out.below hw3)
          obtain ⟨hB3, hB3'⟩ := bnext hB2 (by omega) hw3
          have hz4 := Below.size hw3
          clear k0 k1 k2 k3 CS hw3 hB2
          have k0 := bx.c0
          have k1 := bx.c1
          have k2 := bx.c2
          have k3 := bx.c3
          have CS := refSign_any _ _ _ _ _ w3 gm
          rw [hsg] at CS
          have CS := Lib.hid CS
          by_cases h4 : m = 0
          · subst h4
            obtain rfl : sg = 0 := by rw [← hsg]; rfl
            have HV := Lib.hid (dsqrt_zero (e := xe) (p := p) mode (by omega) (by omega))
            clear hsg
            go_wp2_with fail
            refine CS.out.mono ?_
            rintro e w4 ⟨rfl, hw4⟩
            have c1 := c1.below hw4
            obtain ⟨hB4, hB4'⟩ := bnext hB3 (by omega) hw4
            clear k0 k1 k2 k3 CS
            have q0 := c1.c0
            have q1 := c1.c1
            have q2 := c1.c2
            have q3 := c1.c3
            have f0 := c1.f 0
            have f1 := c1.f 1
            have f2 := c1.f 2
            have f3 := c1.f 3
            have hres := dn_stored c1 (dn_zero w4) w hB4 (by omega)
            have z3 := c1.stored false false none 0 0 0
            have z0 := z3.c0
            have z1 := z3.c1
            have z2 := z3.c2
            have z4 := z3.c3
            have HRES := Lib.hid hres; clear hres z3
            go_wp2
            refine bodyPost_ret (v := .agg #[.bool false, .bool false, .slice none 0 0, .int .i64 0]) (by simp [results, Tryz.results43, go_sem, z0, z1, z2, z4]) rfl ⟨_, rfl, ?_, ?_⟩
            · first | exact HRES.out.1 | (rw [HV.out]; exact HRES.out.1)
            · show Below _ _ _; rw [HBe.out]; exact HRES.out.2
          · have hs1 : (sg == 0) = false := by
              rw [← hsg]; unfold sgn3
              split
              · rfl
              · split <;> first | rfl | omega
            obtain ⟨P, rfl⟩ : ∃ P : Nat, p = (P : Int) := ⟨p.toNat, by omega⟩
            obtain ⟨A, rfl⟩ := Int.eq_ofNat_of_zero_le (show 0 ≤ m by omega)
            have hodd : A % 2 = 1 := by
              have h : ((A : Int) = 0 ∧ xe = 0) ∨ ((A : Int).natAbs % 2 = 1 ∧ -65536 ≤ xe ∧ xe + blen (A : Int).natAbs ≤ 65536) := HND.out
              rw [Int.natAbs_natCast] at h
              omega
            rw [Int.natAbs_natCast] at hnx
            have HAb := Lib.hid (show blen A ≤ 140000 by omega)
            have HP := Lib.hid (show P ≤ 4096 by omega)
            have HDS := Lib.hid (fun (k : Nat) (hk : 2 * (P : Int) + 4 - (blen A : Int) ≤ (k : Nat)) (hev : (xe - (k : Int)) % 2 = 0) => dsqrt_rd (mode := mode) (e := xe) (k := k) hodd (by omega) hk hev)
            clear hsg h3 h4 hodd
            go_wp2_with fail
            refine CS.out.mono ?_
            rintro e w4 ⟨rfl, hw4⟩
            have hw4 : Ext w3 w4 := hw4
            have bx := bx.ext hw4
            have c1 := c1.ext hw4
            have gm := gm.below hw4
            have HT := Lib.hid (HT.out.below hw4)
            obtain ⟨hB4, hB4'⟩ := bnext hB3 (by omega) hw4
            have hz5 := Below.size hw4
            clear k0 k1 k2 k3 CS hw4 hB3
            have k0 := bx.c0
            have k1 := bx.c1
            have k2 := bx.c2
            have k3 := bx.c3
            have CR := Lib.hid (refRoot_any A _ _ _ _ P xe w4 gm HAb.out (by omega) HP.out)
            go_wp2_with fail
            refine CR.out.mono ?_
            rintro r w5 ⟨k, qn, qo, qk, qc, hk, hev, hk9, rfl, hq, hw5⟩
            have HV := HDS.out k hk hev
            have hIb : blen (isq (A * 2 ^ k)) ≤ 900000 := by
              have h2 := blen_lt A
              have h3 : A * 2 ^ k < 2 ^ (blen A + k) := by rw [Nat.pow_add]; exact Nat.mul_lt_mul_of_pos_right h2 (Nat.pow_pos (by omega))
              have h4 : isq (A * 2 ^ k) ≤ A * 2 ^ k := by
                have h5 := (isq_spec (A * 2 ^ k)).1
                rcases Nat.eq_zero_or_pos (isq (A * 2 ^ k)) with h | h
                · omega
                · exact Nat.le_trans (Nat.le_mul_of_pos_left _ h) h5
              exact Nat.le_trans (blen_le_of_lt (Nat.lt_of_le_of_lt h4 h3)) (by have := HAb.out; omega)
            clear hk hev
            obtain ⟨t, ht⟩ : ∃ t, decide (isq (A * 2 ^ k) * isq (A * 2 ^ k) ≠ A * 2 ^ k) = t := ⟨_, rfl⟩
            obtain ⟨Q, hQ⟩ : ∃ Q, isq (A * 2 ^ k) = Q := ⟨_, rfl⟩
            rw [ht] at HV
            rw [hQ] at HV hq hIb
            rw [ht]
            clear ht hQ
            have bx := bx.ext hw5
            have c1 := c1.ext hw5
            have HT := Lib.hid (HT.out.below hw5)
            obtain ⟨hB5, hB5'⟩ := bnext hB4 (by omega) hw5
            have hz6 := Below.size hw5
            have HV := Lib.hid HV
            have HIb := Lib.hid hIb
            obtain ⟨E, hE⟩ : ∃ E : Int, (xe - (k : Int)) / 2 = E := ⟨_, rfl⟩
            have hEb : -4000000000 ≤ E ∧ E ≤ 4000000000 := by omega
            rw [hE] at HV
            rw [hE]
            clear k0 k1 k2 k3 CR hw5 hB4 hE hk9 hIb bx
            go_upto_region 7 with fail
            obtain ⟨U, hU, hu, hG, hzu⟩ := box_new w5 qn qo qk qc
            rw [← hU]
            clear hU
            have hq := hq.below hu
            have c1 := c1.below hu
            have HT := Lib.hid (HT.out.below hu)
            obtain ⟨hB6, hB6'⟩ := bnext hB5 (by omega) hu
            have g0 := hG.c0
            have g1 := hG.c1
            have CR := refDRounded_any false qn qo qk qc Q E t P mode U (bn_bg_of hq (by rw [Int.natAbs_natCast]; have := HIb.out; omega)) HIb.out hEb HP.out HT.out
            rw [HV.out] at CR
            have CR := Lib.hid CR
            clear hu hq
            go_wp2_with fail
            with_reducible refine CR.out.mono ?_
            rintro r w7 ⟨v, rfl, hr2, hw7⟩
            obtain ⟨rb, rn, ro2, rk, rc, re, rfl⟩ := hr2.parts
            have c4 := c1.ext hw7
            have hB7 : Below B w w7 := (bnext hB6 (by omega) hw7).1
            clear g0 g1 CR
            have q0 := c4.c0
            have q1 := c4.c1
            have q2 := c4.c2
            have q3 := c4.c3
            have f0 := c4.f 0
            have f1 := c4.f 1
            have f2 := c4.f 2
            have f3 := c4.f 3
            have hres := dn_stored c4 hr2 w hB7 (by omega)
            have z3 := c4.stored rb rn ro2 rk rc re
            have z0 := z3.c0
            have z1 := z3.c1
            have z2 := z3.c2
            have z4 := z3.c3
            have HRES := Lib.hid hres; clear hres z3
            go_wp2
            refine bodyPost_ret (v := .agg #[.bool rb, .bool rn, .slice ro2 rk rc, .int .i64 re]) (by simp [results, Tryz.results43, go_sem, z0, z1, z2, z4]) rfl ⟨_, rfl, ?_, ?_⟩
            · exact HRES.out.1
            · show Below _ _ _; rw [HBe.out]; exact HRES.out.2
end Go.Proofs.YtjohpdobnedilaaGreatDoor
