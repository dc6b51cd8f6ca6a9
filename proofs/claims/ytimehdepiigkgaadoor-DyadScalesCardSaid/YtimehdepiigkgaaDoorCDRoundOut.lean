/- What dyad.Round does. -/
import Derived.Test.YtimehdepiigkgaaDoorGm
namespace Go.Proofs.YtimehdepiigkgaaDoor
open Go.RowKit

/-- a dyad rounded -/
def dround (d : Dy) (p mode : Int) : Dy := match d with
  | some (m, e) => if 1 ≤ p ∧ p ≤ 4096 then drd m e p.toNat mode else none
  | none => none

set_option maxRecDepth 100000 in
set_option maxHeartbeats 4000000 in
theorem dround_any (u : Value) (d : Dy) (p mode : Int) (w : World) (hu : Dg w u d) (hT : Table w) :
    Calls Tryd.prog 22 #[u, .int .i64 p, .int .i64 mode] w fun e w' => ∃ r, e = .returned r ∧ Dn w' r (dround d p mode) ∧ Ext w w' := by
  have hu0 := hu
  obtain ⟨ub, un, uo, uk, uc, _, uf, rfl, -⟩ := hu0
  go_enter Tryd.func22, Tryd.ntmps22
  go_upto_region 1 with fail
  obtain ⟨W, hW, hB, hbx, hrx, hz⟩ := boxes_dd w ub un uo uk uc uf
  rw [← hW]
  clear hW
  have hu := hu.ext hB
  have HT := Lib.hid (hT.below hB)
  have HT0 := Lib.hid hT
  generalize hBe : w.heap.size = B at *
  have HBe := Lib.hid hBe; clear hBe hT
  have k0 := hbx.c0
  have k1 := hbx.c1
  have k2 := hbx.c2
  have k3 := hbx.c3
  go_wp2_with fail
  refine (dnormal_any _ _ _ hu HT.out).mono ?_
  rintro e w1 ⟨r, rfl, hr, hw1⟩
  obtain ⟨mbb, mb, mo, m, cb, me, rfl⟩ := hr.parts
  have b1 := hbx.below hw1
  have c1 := hrx.below hw1
  have hT1 := HT.out.below hw1
  obtain ⟨hB1, hB1'⟩ := bnext hB (by omega) hw1
  have ho := only_set4 w1 B (.bool mbb) (.bool mb) (.slice mo m cb) (.int .i64 me)
  have b2 := b1.stored mbb mb mo m cb me
  have c2 := c1.only ho (by omega)
  have hr2 := hr.only_dbox b1 ho
  have hB2 := hB1.trans (ho.below (Nat.le_refl B))
  have hT2 := (show Table w from HT0.out).below (w' := (((((w1.setCell ⟨B, 0, none⟩ (.bool mbb)).setCell ⟨B, 1, none⟩ (.bool mb)).setCell ⟨B, 2, none⟩ (.slice mo m cb)).setCell ⟨B, 3, none⟩ (.int .i64 me)))) (by rw [HBe.out]; exact hB2)
  have hz2 : B + 2 ≤ (((((w1.setCell ⟨B, 0, none⟩ (.bool mbb)).setCell ⟨B, 1, none⟩ (.bool mb)).setCell ⟨B, 2, none⟩ (.slice mo m cb)).setCell ⟨B, 3, none⟩ (.int .i64 me))).heap.size := by rw [ho.size]; have := hw1.size; omega
  have HT2 := Lib.hid hT2; clear hT2
  clear k0 k1 k2 k3 hT1 hu
  have k0 := b1.c0
  have k1 := b1.c1
  have k2 := b1.c2
  have k3 := b1.c3
  have f0 := b1.f 0
  have f1 := b1.f 1
  have f2 := b1.f 2
  have f3 := b1.f 3
  go_upto_region 2 with fail
  generalize (((w1.setCell ⟨B, 0, none⟩ (.bool mbb)).setCell ⟨B, 1, none⟩ (.bool mb)).setCell ⟨B, 2, none⟩ (.slice mo m cb)).setCell ⟨B, 3, none⟩ (.int .i64 me) = w2 at *
  clear k0 k1 k2 k3 f0 f1 f2 f3 ho b1 c1 hr hw1 HT
  have k0 := b2.c0
  have k1 := b2.c1
  have k2 := b2.c2
  have k3 := b2.c3
  cases d with
  | none =>
    obtain rfl := dn_none hr2
    have hd : dround none p mode = none := rfl
    have HD := Lib.hid hd; clear hd
    go_wp2_with fail
    refine (bad_any _).mono ?_
    rintro e w3 ⟨rfl, hw3⟩
    have c3 := c2.below hw3
    obtain ⟨hB3, hB3'⟩ := bnext hB2 (by omega) hw3
    clear k0 k1 k2 k3
    have q0 := c3.c0
    have q1 := c3.c1
    have q2 := c3.c2
    have q3 := c3.c3
    have f0 := c3.f 0
    have f1 := c3.f 1
    have f2 := c3.f 2
    have f3 := c3.f 3
    have hres := dn_stored c3 (dn_bad _) w hB3 (Nat.le_succ B)
    have z3 := c3.stored true false none 0 0 0
    have z0 := z3.c0
    have z1 := z3.c1
    have z2 := z3.c2
    have z4 := z3.c3
    have HRES := Lib.hid hres; clear hres z3
    go_wp2
    refine bodyPost_ret (v := .agg #[.bool true, .bool false, .slice none 0 0, .int .i64 0]) (by simp [results, Tryd.results22, go_sem, z0, z1, z2, z4]) rfl ⟨_, rfl, ?_, ?_⟩
    · rw [HD.out]; exact HRES.out.1
    · show Below _ _ _; rw [HBe.out]; exact HRES.out.2
  | some q =>
    obtain ⟨x, e0⟩ := q
    obtain ⟨rfl, hme, hbn⟩ := dn_some hr2
    subst hme
    have hd0 : dround (some (x, me)) p mode = if 1 ≤ p ∧ p ≤ 4096 then drd x me p.toNat mode else none := rfl
    have hnd := nd_blen hr2.1
    simp only [dm, dx, Option.getD_some] at hnd
    have hms : m ≤ 4096 := by
      rw [← hbn.sl.len]
      exact limbs_of_blen (by omega)
    have HD0 := Lib.hid hd0; clear hd0 hr2
    by_cases hp : 1 ≤ p ∧ p ≤ 4096
    · have hpb : decide (1 ≤ p ∧ p ≤ 4096) = true := by simpa using hp
      have HPB := Lib.hid hpb; clear hpb
      have hdd := HD0.out
      rw [if_pos hp] at hdd
      have HD := Lib.hid hdd; clear hdd
      obtain ⟨hp0, hp1⟩ := hp
      go_wp2_with fail
      refine (isPrec_any _ _).mono ?_
      rintro e w3 ⟨rfl, rfl⟩
      rw [HPB.out]
      go_wp2_with fail
      refine (rounded_int _ _ _ _ _ _ _ _ _ (hbn.bg (by omega)) (by omega) (by omega) (by omega) hp1 hp0 HT2.out).mono ?_
      rintro e w4 ⟨r, rfl, hr, hw4⟩
      rw [← HD.out] at hr
      have c4 := c2.below hw4
      obtain ⟨hB4, hB4'⟩ := bnext hB2 (by omega) hw4
      obtain ⟨rb, rn, ro, rk, rc, re, rfl⟩ := hr.parts
      clear k0 k1 k2 k3
      have q0 := c4.c0
      have q1 := c4.c1
      have q2 := c4.c2
      have q3 := c4.c3
      have f0 := c4.f 0
      have f1 := c4.f 1
      have f2 := c4.f 2
      have f3 := c4.f 3
      have hres := dn_stored c4 hr w hB4 (Nat.le_succ B)
      have z3 := c4.stored rb rn ro rk rc re
      have z0 := z3.c0
      have z1 := z3.c1
      have z2 := z3.c2
      have z4 := z3.c3
      have HRES := Lib.hid hres; clear hres z3
      go_wp2
      refine bodyPost_ret (v := .agg #[.bool rb, .bool rn, .slice ro rk rc, .int .i64 re]) (by simp [results, Tryd.results22, go_sem, z0, z1, z2, z4]) rfl ⟨_, rfl, ?_, ?_⟩
      · exact HRES.out.1
      · show Below _ _ _; rw [HBe.out]; exact HRES.out.2
    · have hpb : decide (1 ≤ p ∧ p ≤ 4096) = false := by simpa using hp
      have HPB := Lib.hid hpb; clear hpb
      have hdd := HD0.out
      rw [if_neg hp] at hdd
      have HD := Lib.hid hdd; clear hdd hp
      go_wp2_with fail
      refine (isPrec_any _ _).mono ?_
      rintro e w3 ⟨rfl, rfl⟩
      rw [HPB.out]
      go_wp2_with fail
      refine (bad_any _).mono ?_
      rintro e w4 ⟨rfl, hw4⟩
      have c4 := c2.below hw4
      obtain ⟨hB4, hB4'⟩ := bnext hB2 (by omega) hw4
      clear k0 k1 k2 k3
      have q0 := c4.c0
      have q1 := c4.c1
      have q2 := c4.c2
      have q3 := c4.c3
      have f0 := c4.f 0
      have f1 := c4.f 1
      have f2 := c4.f 2
      have f3 := c4.f 3
      have hres := dn_stored c4 (dn_bad _) w hB4 (Nat.le_succ B)
      have z3 := c4.stored true false none 0 0 0
      have z0 := z3.c0
      have z1 := z3.c1
      have z2 := z3.c2
      have z4 := z3.c3
      have HRES := Lib.hid hres; clear hres z3
      go_wp2
      refine bodyPost_ret (v := .agg #[.bool true, .bool false, .slice none 0 0, .int .i64 0]) (by simp [results, Tryd.results22, go_sem, z0, z1, z2, z4]) rfl ⟨_, rfl, ?_, ?_⟩
      · rw [HD.out]; exact HRES.out.1
      · show Below _ _ _; rw [HBe.out]; exact HRES.out.2
end Go.Proofs.YtimehdepiigkgaaDoor
