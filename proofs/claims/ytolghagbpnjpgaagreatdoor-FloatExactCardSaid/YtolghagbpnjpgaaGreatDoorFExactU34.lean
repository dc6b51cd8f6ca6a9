import Derived.Test.YtolghagbpnjpgaaGreatDoorFExactU33
import Derived.Test.YtolghagbpnjpgaaGreatDoorFExactU20
import Derived.Test.YtolghagbpnjpgaaGreatDoorFExactU24
import Derived.Test.YtolghagbpnjpgaaGreatDoorFExactU30
import Derived.Test.YtolghagbpnjpgaaGreatDoorFExactU4
import Derived.Test.YtolghagbpnjpgaaGreatDoorFExactU16
import Derived.Test.YtolghagbpnjpgaaGreatDoorFExactU17
import Derived.WalkKit
import Derived.WalkSmall
import Derived.Lib.Hide
import Derived.Test.YtolghagbpnjpgaaGreatDoorFExactU26
namespace Go.Proofs.YtolghagbpnjpgaaGreatDoor
open Go.RowKit

set_option maxRecDepth 100000 in
set_option maxHeartbeats 4000000 in
theorem ref_dadd_any (u v : Value) (d d' : Dy) (w : World) (hu : Dl w u d) (hv : Dl w v d') (hT : Table w) :
    Calls Tryz.prog 59 #[u, v] w fun e w' => ∃ r, e = .returned r ∧ Dn w' r (dadd d d') ∧ Ext w w' := by
  have hu0 := hu
  have hv0 := hv
  obtain ⟨ub, un, uo, uk, uc, _, uf, rfl, -⟩ := hu0
  obtain ⟨vb, vn, vo, vk, vc, _, vf, rfl, -⟩ := hv0
  go_enter Tryz.func59, Tryz.ntmps59
  go_upto_region 1 with fail
  obtain ⟨W, hW, hB, hbx, hby, hrx, hz⟩ := boxes_ddd w ub un uo uk uc uf vb vn vo vk vc vf
  rw [← hW]
  clear hW
  have hu := hu.ext hB
  have hv := hv.ext hB
  have HT0 := Lib.hid hT
  have hT := hT.below hB
  generalize hBe : w.heap.size = B at *
  have HBe := Lib.hid hBe; clear hBe
  go_cut [] from 8 (fun wx => ∃ xb xn xo xk xc xe yb yn yo yk yc ye, Dn wx (.agg #[.bool xb, .bool xn, .slice xo xk xc, .int .i64 xe]) d ∧ Dn wx (.agg #[.bool yb, .bool yn, .slice yo yk yc, .int .i64 ye]) d' ∧
    DBox wx B xb xn xo xk xc xe ∧ DBox wx (B + 1) yb yn yo yk yc ye ∧ Below B w wx ∧ (∀ k, B + 1 < k → k < W.heap.size → wx.heap[k]? = W.heap[k]?) ∧ W.heap.size ≤ wx.heap.size)
  case first =>
    have k0 := hbx.c0
    have k1 := hbx.c1
    have k2 := hbx.c2
    have k3 := hbx.c3
    have l0 := hby.c0
    have l1 := hby.c1
    have l2 := hby.c2
    have l3 := hby.c3
    go_region_with (first
      | (go_at_call 86; refine (refDNorm_any _ _ _ (by exact hu.ext (by exact (Below.refl _ _).drew)) (by exact hT.below (by exact (Below.refl _ _).drew))).mono ?_; rintro e w1 ⟨r1, rfl, hr1, hw1⟩; have ex1 : Ext W w1 := Ext.trans (by exact (Below.refl _ _).drew) hw1; obtain ⟨xb, xn, xo, xk, xc, xe, rfl⟩ := hr1.parts; have fb := hby.ext ex1; have h0 := fb.c0; have h1 := fb.c1; have h2 := fb.c2; have h3 := fb.c3)
      | (go_at_call 86; refine (refDNorm_any _ _ _ (by exact hv.ext ex1) (by exact hT.below ex1)).mono ?_; rintro e w2 ⟨r2, rfl, hr2, hw2⟩; have ex2 : Ext W w2 := Ext.trans ex1 hw2; obtain ⟨yb, yn, yo, yk, yc, ye, rfl⟩ := hr2.parts; have hr1 := hr1.ext hw2; clear h0 h1 h2 h3; have fa := hbx.ext ex2; have fb := hby.ext ex2; have a0 := fa.c0; have a1 := fa.c1; have a2 := fa.c2; have a3 := fa.c3; have b0 := fb.c0; have b1 := fb.c1; have b2 := fb.c2; have b3 := fb.c3; have g0 := fa.f 0; have g1 := fa.f 1; have g2 := fa.f 2; have g3 := fa.f 3; have h0 := fb.f 0; have h1 := fb.f 1; have h2 := fb.f 2; have h3 := fb.f 3))
    all_goals
      go_wp2
      go_meet
    all_goals
      clear a0 a1 a2 a3 b0 b1 b2 b3 g0 g1 g2 g3 h0 h1 h2 h3 k0 k1 k2 k3 l0 l1 l2 l3
      obtain ⟨hB2, hB2'⟩ := bnext hB (by omega) ex2
      obtain ⟨Z, hZ, z1, z2, z3, z4, z5, z6, z7⟩ := two_dyads fa fb (by omega) (Nat.le_refl B) (Nat.le_succ B) hr1 hr2 hB2
      rw [← hZ]
      exact ⟨_, _, _, _, _, _, _, _, _, _, _, _, z1, z2, z4, z5, z3, fun k hk1 hk2 => by rw [z6 k (by omega) (by omega)]; exact Below.block ex2 k hk2, by rw [z7]; exact Below.size ex2⟩
  case rest =>
    obtain ⟨xb, xn, xo, xk, xc, xe, yb, yn, yo, yk, yc, ye, hx, hy, bx, bY, hB1, hkeep, hzc⟩ := hcut
    have hT1 := (show Table w from HT0.out).below (w' := wc) (by rw [HBe.out]; exact hB1)
    have hrx : DBox wc (B + 1 + 1) false false none 0 0 0 := by
      have := hrx
      unfold DBox at this ⊢
      rw [hkeep _ (by omega) (by omega)]; exact this
    have HT := Lib.hid hT1
    clear hT1 hbx hby hu hv hT hB hkeep
    have k0 := bx.c0
    have k1 := bx.c1
    have k2 := bx.c2
    have k3 := bx.c3
    have l0 := bY.c0
    have l1 := bY.c1
    have l2 := bY.c2
    have l3 := bY.c3
    cases d with
    | none =>
      obtain rfl := dn_none hx
      go_wp2_with fail
      refine (refBad_any _).mono ?_
      rintro e w1 ⟨rfl, hw1⟩
      have c1 := hrx.below hw1
      obtain ⟨hB2, hB2'⟩ := bnext hB1 (by omega) hw1
      have q0 := c1.c0
      have q1 := c1.c1
      have q2 := c1.c2
      have q3 := c1.c3
      have f0 := c1.f 0
      have f1 := c1.f 1
      have f2 := c1.f 2
      have f3 := c1.f 3
      have hres := dn_stored c1 (dn_bad w1) w hB2 (by omega)
      have z3 := c1.stored true false none 0 0 0
      have z0 := z3.c0
      have z1 := z3.c1
      have z2 := z3.c2
      have z4 := z3.c3
      have HRES := Lib.hid hres; clear hres z3
      go_wp2
      refine bodyPost_ret (v := .agg #[.bool true, .bool false, .slice none 0 0, .int .i64 0]) (by simp [results, Tryz.results59, go_sem, z0, z1, z2, z4]) rfl ⟨_, rfl, ?_, ?_⟩
      · exact HRES.out.1
      · show Below _ _ _; rw [HBe.out]; exact HRES.out.2
    | some p =>
      obtain ⟨m, f⟩ := p
      obtain ⟨rfl, rfl, hm⟩ := dn_some hx
      cases d' with
      | none =>
        obtain rfl := dn_none hy
        go_wp2_with fail
        refine (refBad_any _).mono ?_
        rintro e w1 ⟨rfl, hw1⟩
        have c1 := hrx.below hw1
        obtain ⟨hB2, hB2'⟩ := bnext hB1 (by omega) hw1
        have q0 := c1.c0
        have q1 := c1.c1
        have q2 := c1.c2
        have q3 := c1.c3
        have f0 := c1.f 0
        have f1 := c1.f 1
        have f2 := c1.f 2
        have f3 := c1.f 3
        have hres := dn_stored c1 (dn_bad w1) w hB2 (by omega)
        have z3 := c1.stored true false none 0 0 0
        have z0 := z3.c0
        have z1 := z3.c1
        have z2 := z3.c2
        have z4 := z3.c3
        have HRES := Lib.hid hres; clear hres z3
        go_wp2
        refine bodyPost_ret (v := .agg #[.bool true, .bool false, .slice none 0 0, .int .i64 0]) (by simp [results, Tryz.results59, go_sem, z0, z1, z2, z4]) rfl ⟨_, rfl, ?_, ?_⟩
        · exact HRES.out.1
        · show Below _ _ _; rw [HBe.out]; exact HRES.out.2
      | some q =>
        obtain ⟨m', f'⟩ := q
        obtain ⟨rfl, rfl, hm'⟩ := dn_some hy
        have hnx := hx.1
        have hny := hy.1
        clear hx hy
        go_wp2_with fail
        refine (refAlign_any _ _ _ _ _ _ _ _ _ _ _ _ _ hm hm' hnx hny).mono ?_
        rintro e w1 ⟨an, ao', ak, ac, bn, bo', bk, bc, X, Y, E, rfl, hX, hY, hAl, hak, hbk, hw1⟩
        have c1 := hrx.below hw1
        have HT := Lib.hid (HT.out.below hw1)
        obtain ⟨hB2, hB2'⟩ := bnext hB1 (by omega) hw1
        have hz1 := hw1.size
        have hE0 := hAl.1
        have hE1 := hAl.2.1
        have HAL := Lib.hid hAl
        clear k0 k1 k2 k3 l0 l1 l2 l3 hm hm' hnx hny hAl hrx hB1 bx bY hw1
        go_upto_region 5 with fail
        obtain ⟨V, hV, hv, e1, e2⟩ := boxes_bb w1 an ao' ak ac bn bo' bk bc
        rw [← hV]
        clear hV
        have hX := hX.below hv
        have hY := hY.below hv
        have c1 := c1.below hv
        have HT := Lib.hid (HT.out.below hv)
        obtain ⟨hB2, hB2'⟩ := bnext hB2 (by omega) hv
        have hz2 := hv.size
        have k0 := e1.c0
        have k1 := e1.c1
        have l0 := e2.c0
        have l1 := e2.c1
        clear hv
        generalize w1.heap.size = D at *
        have HBL := Lib.hid (show blen (X + Y).natAbs ≤ 1000000 by
          have a := blen_add X Y
          have b := HAL.out.2.2.2.2
          omega)
        go_wp2_with fail
        refine (refAdd_any _ _ _ _ _ _ _ _ _ _ _ hX hY).mono ?_
        rintro e w2 ⟨nr, ro, l, cr, rfl, hr, hw2⟩
        have hr := bn_bg_of hr HBL.out
        have c1 := c1.below hw2
        have HT := Lib.hid (HT.out.below hw2)
        obtain ⟨hB3, hB3'⟩ := bnext hB2 (by omega) hw2
        have hz3 := hw2.size
        clear k0 k1 l0 l1 hw2
        go_wp2_with fail
        refine (refMake_any _ _ _ _ _ _ _ hr HBL.out (by omega) (by omega) HT.out).mono ?_
        rintro e w3 ⟨r, rfl, hr2, hw3⟩
        rw [dadd_al HAL.out] at hr2
        have c1 := c1.below hw3
        obtain ⟨hB4, hB4'⟩ := bnext hB3 (by omega) hw3
        obtain ⟨rb, rn, ro2, rk, rc, re, rfl⟩ := hr2.parts
        have q0 := c1.c0
        have q1 := c1.c1
        have q2 := c1.c2
        have q3 := c1.c3
        have f0 := c1.f 0
        have f1 := c1.f 1
        have f2 := c1.f 2
        have f3 := c1.f 3
        have hres := dn_stored c1 hr2 w hB4 (by omega)
        have z3 := c1.stored rb rn ro2 rk rc re
        have z0 := z3.c0
        have z1 := z3.c1
        have z2 := z3.c2
        have z4 := z3.c3
        have HRES := Lib.hid hres; clear hres z3
        go_wp2
        refine bodyPost_ret (v := .agg #[.bool rb, .bool rn, .slice ro2 rk rc, .int .i64 re]) (by simp [results, Tryz.results59, go_sem, z0, z1, z2, z4]) rfl ⟨_, rfl, ?_, ?_⟩
        · exact HRES.out.1
        · show Below _ _ _; rw [HBe.out]; exact HRES.out.2

end Go.Proofs.YtolghagbpnjpgaaGreatDoor

namespace Go.Proofs.YtolghagbpnjpgaaGreatDoor
open Go.RowKit

set_option maxRecDepth 100000 in
theorem refFin_any (f : Nat) (hf : f < 18446744073709551616) (b : Bool) (hb : finB f = b) (w : World) :
    Calls Tryz.prog 99 #[.int .u64 (f : Int)] w fun e w' => e = .returned (.bool b) ∧ w = w' := by
  have h1 : (f : Int) / 4503599627370496 = ((f / 4503599627370496 : Nat) : Int) := (Int.natCast_ediv _ _).symm
  have h2 := bits_and_u64_nat (f / 4503599627370496) 2047 (by omega) (by omega)
  rw [show (2047 : Nat) = 2 ^ 11 - 1 from rfl, Nat.and_two_pow_sub_one_eq_mod] at h2
  have h3 : (((f / 4503599627370496 % 2 ^ 11 : Nat) : Int) != 2047) = b := by
    rw [← hb]
    unfold finB fmag
    by_cases h : f % 9223372036854775808 < 9218868437227405312
    · rw [decide_eq_true h]; simp; omega
    · rw [decide_eq_false h]; simp; omega
  obtain ⟨q, hq⟩ : ∃ q : Nat, f / 4503599627370496 % 2 ^ 11 = q := ⟨_, rfl⟩
  rw [hq] at h2 h3
  have h2 : bits BinOp.and IntKind.u64 ((f / 4503599627370496 : Nat) : Int) 2047 = (q : Int) := h2
  rw [← h1] at h2
  clear hb hq h1
  cases b
  all_goals
    go_enter Tryz.func99, Tryz.ntmps99
    go_wp2
    go_ret
    exact ⟨ret_bool (by first | rfl | exact h3), rfl⟩
end Go.Proofs.YtolghagbpnjpgaaGreatDoor

namespace Go.Proofs.YtolghagbpnjpgaaGreatDoor
open Go.RowKit

/-- two limbs made by a literal -/
theorem slice_two (w : World) (lo hi : Int) (h0 : 0 ≤ lo ∧ lo < 4294967296) (h1 : 0 ≤ hi ∧ hi < 4294967296) :
    ∃ W, W = w.alloc (.cells #[.int .u32 lo, .int .u32 hi] 96) ∧ Ext w W ∧ Sl W (some ⟨w.heap.size, 0, none⟩) 2 2 [lo, hi] ∧ w.heap.size + 1 ≤ W.heap.size := by
  refine ⟨_, rfl, (Below.refl _ w).alloc (Nat.le_refl _) _, ?_, by simp⟩
  have hb : Blk (w.alloc (.cells #[.int .u32 lo, .int .u32 hi] 96)) w.heap.size [lo, hi] := by
    have := heap_alloc_new w (.cells #[.int .u32 lo, .int .u32 hi] 96)
    simpa [Blk] using this
  exact hb.sl (Wf.cons h0 (Wf.cons h1 Wf.nil)) rfl (by omega) (Nat.le_refl _)

theorem fdy_make {f S k : Nat} {E : Int} (hf : finB f = true) (hS : sig f = S) (hk : fsh f = k) (hE : E = -1074 + (k : Int)) : dmk (if fneg f then -(S : Int) else (S : Int)) E = fdy f := by
  unfold fdy
  rw [hf, if_pos rfl]
  have h1 : fzs f = (if fneg f then -(S : Int) else (S : Int)) * 2 ^ k := by
    unfold fzs fz
    rw [hS, hk, Int.natCast_mul, Int.natCast_pow]
    cases fneg f
    · rfl
    · simp only [if_true]; rw [Int.neg_mul]; rfl
  rw [h1, dmk_shift, hE]

theorem sgd_two {b : Bool} {S : Nat} : sgd b [(S : Int) % 4294967296, (S : Int) / 4294967296] = if b then -(S : Int) else (S : Int) := by
  unfold sgd
  rw [num_two]

set_option maxRecDepth 100000 in
set_option maxHeartbeats 4000000 in
theorem refOf_any (f : Nat) (hf : f < 18446744073709551616) (w : World) (hT : Table w) :
    Calls Tryz.prog 60 #[.int .u64 (f : Int)] w fun e w' => ∃ v, e = .returned v ∧ Dn w' v (fdy f) ∧ Ext w w' := by
  have HT := Lib.hid hT
  clear hT
  cases hfin : finB f with
  | false =>
    have CF := Lib.hid (refFin_any f hf false hfin)
    have HD := Lib.hid (show fdy f = none by unfold fdy; rw [hfin]; rfl)
    clear hfin hf
    go_enter Tryz.func60, Tryz.ntmps60
    go_upto_region 1 with fail
    obtain ⟨W, hW, hB, r1, hz⟩ := dbox_new w false false none 0 0 0
    rw [← hW]
    clear hW
    generalize hBe : w.heap.size = B at *
    have HBe := Lib.hid hBe
    clear hBe hz
    go_wp2_with fail
    refine (CF.out _).mono ?_
    rintro e w1 ⟨rfl, rfl⟩
    go_wp2_with fail
    refine (refBad_any _).mono ?_
    rintro e w1 ⟨rfl, hw1⟩
    have c1 := r1.below hw1
    obtain ⟨hB2, hB2'⟩ := bnext hB (Nat.le_of_lt r1.lt) hw1
    have q0 := c1.c0
    have q1 := c1.c1
    have q2 := c1.c2
    have q3 := c1.c3
    have f0 := c1.f 0
    have f1 := c1.f 1
    have f2 := c1.f 2
    have f3 := c1.f 3
    have hres := dn_stored c1 (dn_bad w1) w hB2 (Nat.le_refl _)
    have z3 := c1.stored true false none 0 0 0
    have z0 := z3.c0
    have z1 := z3.c1
    have z2 := z3.c2
    have z4 := z3.c3
    have HRES := Lib.hid hres; clear hres z3
    go_wp2
    refine bodyPost_ret (v := .agg #[.bool true, .bool false, .slice none 0 0, .int .i64 0]) (by simp [results, Tryz.results60, go_sem, z0, z1, z2, z4]) rfl ⟨_, rfl, ?_, ?_⟩
    · rw [HD.out]; exact HRES.out.1
    · show Below _ _ _; rw [HBe.out]; exact HRES.out.2
  | true =>
    have CF := Lib.hid (refFin_any f hf true hfin)
    obtain ⟨ng, hng⟩ : ∃ ng, fneg f = ng := ⟨_, rfl⟩
    have CM := Lib.hid (refMinus_any f hf ng hng)
    obtain ⟨h1, h2⟩ := and_fields f hf
    obtain ⟨q, hq⟩ : ∃ q : Nat, f / 4503599627370496 % 2048 = q := ⟨_, rfl⟩
    obtain ⟨r, hr⟩ : ∃ r : Nat, f % 4503599627370496 = r := ⟨_, rfl⟩
    obtain ⟨hm, hq', hr'⟩ := kind_fields hq hr
    rw [hq] at h1
    rw [hr] at h2
    have hfld : ffld f = q := by unfold ffld; rw [hm]; omega
    have hfr : fmag f % 4503599627370496 = r := by rw [hm]; omega
    by_cases c : q = 0
    · subst c
      have HDY := Lib.hid (fdy_make (f := f) (S := r) (k := 0) (E := -1074) hfin (by unfold sig; rw [if_pos hfld, hm]; omega) (by unfold fsh; rw [hfld]) (by omega))
      rw [hng] at HDY
      have hS0 : (r : Int) < 9007199254740992 := by omega
      clear hfld hfr hm hq hr hng hf hfin hq' hr'
      go_enter Tryz.func60, Tryz.ntmps60
      go_upto_region 1 with fail
      obtain ⟨W, hW, hB, r1, hz⟩ := dbox_new w false false none 0 0 0
      rw [← hW]
      clear hW
      have HT := Lib.hid (HT.out.below hB)
      generalize hBe : w.heap.size = B at *
      have HBe := Lib.hid hBe
      clear hBe hz
      go_wp2_with fail
      refine (CF.out _).mono ?_
      rintro e w1 ⟨rfl, rfl⟩
      go_wp2_with fail
      refine (CM.out _).mono ?_
      rintro e w1 ⟨rfl, rfl⟩
      go_wp2_with fail
      obtain ⟨V, hV, hE, hsl, hz⟩ := slice_two W ((r : Int) % 4294967296) ((r : Int) / 4294967296) (by omega) (by omega)
      rw [← hV]
      clear hV
      have hbg : Bg V ng (some ⟨W.heap.size, 0, none⟩) 2 2 (if ng then -(r : Int) else (r : Int)) := ⟨⟨_, hsl, sgd_two.symm⟩, by omega⟩
      have HT := Lib.hid (HT.out.below hE)
      have c1 := r1.below hE
      obtain ⟨hB2, hB2'⟩ := bnext hB (Nat.le_of_lt r1.lt) hE
      have hbl : blen (if ng then -(r : Int) else (r : Int)).natAbs ≤ 1000000 := by
        have h : (if ng then -(r : Int) else (r : Int)).natAbs < 2 ^ 53 := by cases ng <;> simp <;> omega
        exact Nat.le_trans (blen_le_of_lt h) (by omega)
      refine (refMake_any ng _ 2 2 _ (-1074) V hbg hbl (by omega) (by omega) HT.out).mono ?_
      rintro e w5 ⟨v, rfl, hr2, hw5⟩
      rw [HDY.out] at hr2
      have c1 := c1.below hw5
      obtain ⟨hB4, hB4'⟩ := bnext hB2 hB2' hw5
      obtain ⟨rb, rn, ro2, rk, rc, re, rfl⟩ := hr2.parts
      clear hbg hbl hsl hE hw5 hB2 hB r1 h1 h2
      have q0 := c1.c0
      have q1 := c1.c1
      have q2 := c1.c2
      have q3 := c1.c3
      have f0 := c1.f 0
      have f1 := c1.f 1
      have f2 := c1.f 2
      have f3 := c1.f 3
      have hres := dn_stored c1 hr2 w hB4 (Nat.le_refl _)
      have z3 := c1.stored rb rn ro2 rk rc re
      have z0 := z3.c0
      have z1 := z3.c1
      have z2 := z3.c2
      have z4 := z3.c3
      have HRES := Lib.hid hres; clear hres z3
      go_wp2
      refine bodyPost_ret (v := .agg #[.bool rb, .bool rn, .slice ro2 rk rc, .int .i64 re]) (by simp [results, Tryz.results60, go_sem, z0, z1, z2, z4]) rfl ⟨_, rfl, ?_, ?_⟩
      · exact HRES.out.1
      · show Below _ _ _; rw [HBe.out]; exact HRES.out.2
    · have hor := or_hidden hr'
      obtain ⟨S, hS⟩ : ∃ S : Nat, r + 4503599627370496 = S := ⟨_, rfl⟩
      rw [hS] at hor
      have HDY := Lib.hid (fdy_make (f := f) (S := S) (k := q - 1) (E := (q : Int) - 1075) hfin (by unfold sig; rw [if_neg (by rw [hfld]; exact c), hfr, hS]) (by unfold fsh; rw [hfld]) (by omega))
      rw [hng] at HDY
      have hS0 : (S : Int) < 9007199254740992 := by omega
      have hq0 : 0 < q := by omega
      have hq1 : q < 2048 := by omega
      clear hfld hfr hm hq hr hng hf hfin hq' hr' hS c
      go_enter Tryz.func60, Tryz.ntmps60
      go_upto_region 1 with fail
      obtain ⟨W, hW, hB, r1, hz⟩ := dbox_new w false false none 0 0 0
      rw [← hW]
      clear hW
      have HT := Lib.hid (HT.out.below hB)
      generalize hBe : w.heap.size = B at *
      have HBe := Lib.hid hBe
      clear hBe hz
      go_wp2_with fail
      refine (CF.out _).mono ?_
      rintro e w1 ⟨rfl, rfl⟩
      go_upto_region 4 with fail
      go_upto_region 5 with fail
      go_upto_region 6 with fail
      go_upto_region 7 with fail
      go_upto_region 8 with fail
      go_wp2_with fail
      refine (CM.out _).mono ?_
      rintro e w1 ⟨rfl, rfl⟩
      go_wp2_with fail
      obtain ⟨V, hV, hE, hsl, hz⟩ := slice_two W ((S : Int) % 4294967296) ((S : Int) / 4294967296) (by omega) (by omega)
      rw [← hV]
      clear hV
      have hbg : Bg V ng (some ⟨W.heap.size, 0, none⟩) 2 2 (if ng then -(S : Int) else (S : Int)) := ⟨⟨_, hsl, sgd_two.symm⟩, by omega⟩
      have HT := Lib.hid (HT.out.below hE)
      have c1 := r1.below hE
      obtain ⟨hB2, hB2'⟩ := bnext hB (Nat.le_of_lt r1.lt) hE
      have hbl : blen (if ng then -(S : Int) else (S : Int)).natAbs ≤ 1000000 := by
        have h : (if ng then -(S : Int) else (S : Int)).natAbs < 2 ^ 53 := by cases ng <;> simp <;> omega
        exact Nat.le_trans (blen_le_of_lt h) (by omega)
      refine (refMake_any ng _ 2 2 _ ((q : Int) - 1075) V hbg hbl (by omega) (by omega) HT.out).mono ?_
      rintro e w5 ⟨v, rfl, hr2, hw5⟩
      rw [HDY.out] at hr2
      have c1 := c1.below hw5
      obtain ⟨hB4, hB4'⟩ := bnext hB2 hB2' hw5
      obtain ⟨rb, rn, ro2, rk, rc, re, rfl⟩ := hr2.parts
      clear hbg hbl hsl hE hw5 hB2 hB r1 h1 h2
      have q0 := c1.c0
      have q1 := c1.c1
      have q2 := c1.c2
      have q3 := c1.c3
      have f0 := c1.f 0
      have f1 := c1.f 1
      have f2 := c1.f 2
      have f3 := c1.f 3
      have hres := dn_stored c1 hr2 w hB4 (Nat.le_refl _)
      have z3 := c1.stored rb rn ro2 rk rc re
      have z0 := z3.c0
      have z1 := z3.c1
      have z2 := z3.c2
      have z4 := z3.c3
      have HRES := Lib.hid hres; clear hres z3
      go_wp2
      refine bodyPost_ret (v := .agg #[.bool rb, .bool rn, .slice ro2 rk rc, .int .i64 re]) (by simp [results, Tryz.results60, go_sem, z0, z1, z2, z4]) rfl ⟨_, rfl, ?_, ?_⟩
      · exact HRES.out.1
      · show Below _ _ _; rw [HBe.out]; exact HRES.out.2
end Go.Proofs.YtolghagbpnjpgaaGreatDoor
