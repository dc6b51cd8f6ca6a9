/- dyad.Sqrt asked for more bits than the document allows. -/
import Derived.Test.YtjohpdobnedilaaGreatDoorCDSqrt
namespace Go.Proofs.YtjohpdobnedilaaGreatDoor
open Go.RowKit

set_option maxRecDepth 100000 in
set_option maxHeartbeats 8000000 in
theorem dsqrt_far (u : Value) (d : Dy) (p mode : Int) (w : World) (hu : Dg w u d) (hp : 4096 < p) (hT : Table w) :
    Calls Tryz.prog 42 #[u, .int .i64 p, .int .i64 mode] w fun e w' => ∃ r, e = .returned r ∧ Dn w' r (dsqrt d p mode) ∧ Ext w w' := by
  have hu0 := hu
  obtain ⟨ub, un, uo, uk, uc, _, uf, rfl, -⟩ := hu0
  go_enter Tryz.func42, Tryz.ntmps42
  go_upto_region 1 with fail
  obtain ⟨W, hW, hB, hbx, hrx, hz⟩ := boxes_dd w ub un uo uk uc uf
  rw [← hW]
  clear hW
  have hu := hu.ext hB
  have HT := Lib.hid (hT.below hB)
  have HT0 := Lib.hid hT
  generalize hBe : w.heap.size = B at *
  have HBe := Lib.hid hBe; clear hBe hT
  have k0 := hbx.c0
  have k1 := hbx.c1
  have k2 := hbx.c2
  have k3 := hbx.c3
  go_wp2_with fail
  refine (dnormal_any _ _ _ hu HT.out).mono ?_
  rintro e w1 ⟨r, rfl, hr, hw1⟩
  obtain ⟨mbb, mb, mo, m, cb, me, rfl⟩ := hr.parts
  have b1 := hbx.below hw1
  have c1 := hrx.below hw1
  have hT1 := HT.out.below hw1
  obtain ⟨hB1, hB1'⟩ := bnext hB (by omega) hw1
  have ho := only_set4 w1 B (.bool mbb) (.bool mb) (.slice mo m cb) (.int .i64 me)
  have b2 := b1.stored mbb mb mo m cb me
  have c2 := c1.only ho (by omega)
  have hr2 := hr.only_dbox b1 ho
  have hB2 := hB1.trans (ho.below (Nat.le_refl B))
  have hT2 := (show Table w from HT0.out).below (w' := (((((w1.setCell ⟨B, 0, none⟩ (.bool mbb)).setCell ⟨B, 1, none⟩ (.bool mb)).setCell ⟨B, 2, none⟩ (.slice mo m cb)).setCell ⟨B, 3, none⟩ (.int .i64 me)))) (by rw [HBe.out]; exact hB2)
  have hz2 : B + 2 ≤ (((((w1.setCell ⟨B, 0, none⟩ (.bool mbb)).setCell ⟨B, 1, none⟩ (.bool mb)).setCell ⟨B, 2, none⟩ (.slice mo m cb)).setCell ⟨B, 3, none⟩ (.int .i64 me))).heap.size := by rw [ho.size]; have := hw1.size; omega
  have HT2 := Lib.hid hT2; clear hT2
  clear k0 k1 k2 k3 hT1 hu
  have k0 := b1.c0
  have k1 := b1.c1
  have k2 := b1.c2
  have k3 := b1.c3
  have f0 := b1.f 0
  have f1 := b1.f 1
  have f2 := b1.f 2
  have f3 := b1.f 3
  go_upto_region 2 with fail
  generalize (((w1.setCell ⟨B, 0, none⟩ (.bool mbb)).setCell ⟨B, 1, none⟩ (.bool mb)).setCell ⟨B, 2, none⟩ (.slice mo m cb)).setCell ⟨B, 3, none⟩ (.int .i64 me) = w2 at *
  clear k0 k1 k2 k3 f0 f1 f2 f3 ho b1 c1 hr hw1 HT
  have k0 := b2.c0
  have k1 := b2.c1
  have k2 := b2.c2
  have k3 := b2.c3
  cases d with
  | none =>
    obtain rfl := dn_none hr2
    have HD := Lib.hid (show dsqrt none p mode = none from rfl)
    go_wp2_with fail
    refine (bad_any _).mono ?_
    rintro e w4 ⟨rfl, hw4⟩
    have c4 := c2.below hw4
    obtain ⟨hB4, hB4'⟩ := bnext hB2 (by omega) hw4
    clear k0 k1 k2 k3
    have q0 := c4.c0
    have q1 := c4.c1
    have q2 := c4.c2
    have q3 := c4.c3
    have f0 := c4.f 0
    have f1 := c4.f 1
    have f2 := c4.f 2
    have f3 := c4.f 3
    have hres := dn_stored c4 (dn_bad _) w hB4 (Nat.le_succ B)
    have z3 := c4.stored true false none 0 0 0
    have z0 := z3.c0
    have z1 := z3.c1
    have z2 := z3.c2
    have z4 := z3.c3
    have HRES := Lib.hid hres; clear hres z3
    go_wp2
    refine bodyPost_ret (v := .agg #[.bool true, .bool false, .slice none 0 0, .int .i64 0]) (by simp [results, Tryz.results42, go_sem, z0, z1, z2, z4]) rfl ⟨_, rfl, ?_, ?_⟩
    · rw [HD.out]; exact HRES.out.1
    · show Below _ _ _; rw [HBe.out]; exact HRES.out.2
  | some q =>
    obtain ⟨x, e0⟩ := q
    obtain ⟨rfl, hme, hbn⟩ := dn_some hr2
    subst hme
    have HD0 := Lib.hid (show dsqrt (some (x, me)) p mode = if 1 ≤ p ∧ p ≤ 4096 ∧ 0 ≤ x then drd (rtail x (rsh x me p)) ((me - rsh x me p) / 2 - 1) p.toNat mode else none from rfl)
    have hnd := nd_blen hr2.1
    simp only [dm, dx, Option.getD_some] at hnd
    have hms : m ≤ 4096 := by
      rw [← hbn.sl.len]
      exact limbs_of_blen (by omega)
    have hxn := hbn.neg
    have HPB := Lib.hid (show decide (1 ≤ p ∧ p ≤ 4096) = false from decide_eq_false (by omega))
    have hdd := HD0.out
    rw [if_neg (by omega)] at hdd
    have HD := Lib.hid hdd
    clear hdd hxn
    go_wp2_with fail
    refine (isPrec_any _ _).mono ?_
    rintro e w3 ⟨rfl, rfl⟩
    rw [HPB.out]
    go_wp2_with fail
    refine (bad_any _).mono ?_
    rintro e w4 ⟨rfl, hw4⟩
    have c4 := c2.below hw4
    obtain ⟨hB4, hB4'⟩ := bnext hB2 (by omega) hw4
    clear k0 k1 k2 k3
    have q0 := c4.c0
    have q1 := c4.c1
    have q2 := c4.c2
    have q3 := c4.c3
    have f0 := c4.f 0
    have f1 := c4.f 1
    have f2 := c4.f 2
    have f3 := c4.f 3
    have hres := dn_stored c4 (dn_bad _) w hB4 (Nat.le_succ B)
    have z3 := c4.stored true false none 0 0 0
    have z0 := z3.c0
    have z1 := z3.c1
    have z2 := z3.c2
    have z4 := z3.c3
    have HRES := Lib.hid hres; clear hres z3
    go_wp2
    refine bodyPost_ret (v := .agg #[.bool true, .bool false, .slice none 0 0, .int .i64 0]) (by simp [results, Tryz.results42, go_sem, z0, z1, z2, z4]) rfl ⟨_, rfl, ?_, ?_⟩
    · rw [HD.out]; exact HRES.out.1
    · show Below _ _ _; rw [HBe.out]; exact HRES.out.2
end Go.Proofs.YtjohpdobnedilaaGreatDoor
