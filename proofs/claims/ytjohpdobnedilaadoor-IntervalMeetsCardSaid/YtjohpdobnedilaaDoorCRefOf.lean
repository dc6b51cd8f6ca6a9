/- What the reference's Of does: a float's number. -/
import Derived.Test.YtjohpdobnedilaaDoorIg
import Derived.Test.YtjohpdobnedilaaDoorGp
import Derived.Test.YtjohpdobnedilaaDoorIi
namespace Go.Proofs.YtjohpdobnedilaaDoor
open Go.RowKit

/-- two limbs made by a literal -/
theorem slice_two (w : World) (lo hi : Int) (h0 : 0 ≤ lo ∧ lo < 4294967296) (h1 : 0 ≤ hi ∧ hi < 4294967296) :
    ∃ W, W = w.alloc (.cells #[.int .u32 lo, .int .u32 hi] 64) ∧ Ext w W ∧ Sl W (some ⟨w.heap.size, 0, none⟩) 2 2 [lo, hi] ∧ w.heap.size + 1 ≤ W.heap.size := by
  refine ⟨_, rfl, (Below.refl _ w).alloc (Nat.le_refl _) _, ?_, by simp⟩
  have hb : Blk (w.alloc (.cells #[.int .u32 lo, .int .u32 hi] 64)) w.heap.size [lo, hi] := by
    have := heap_alloc_new w (.cells #[.int .u32 lo, .int .u32 hi] 64)
    simpa [Blk] using this
  exact hb.sl (Wf.cons h0 (Wf.cons h1 Wf.nil)) rfl (by omega) (Nat.le_refl _)

theorem fdy_make {f S k : Nat} {E : Int} (hf : finB f = true) (hS : sig f = S) (hk : fsh f = k) (hE : E = -1074 + (k : Int)) : dmk (if fneg f then -(S : Int) else (S : Int)) E = fdy f := by
  unfold fdy
  rw [hf, if_pos rfl]
  have h1 : fzs f = (if fneg f then -(S : Int) else (S : Int)) * 2 ^ k := by
    unfold fzs fz
    rw [hS, hk, Int.natCast_mul, Int.natCast_pow]
    cases fneg f
    · rfl
    · simp only [if_true]; rw [Int.neg_mul]; rfl
  rw [h1, dmk_shift, hE]

theorem sgd_two {b : Bool} {S : Nat} : sgd b [(S : Int) % 4294967296, (S : Int) / 4294967296] = if b then -(S : Int) else (S : Int) := by
  unfold sgd
  rw [num_two]

set_option maxRecDepth 100000 in
set_option maxHeartbeats 4000000 in
theorem refOf_any (f : Nat) (hf : f < 18446744073709551616) (w : World) (hT : Table w) :
    Calls Tryd.prog 23 #[.int .u64 (f : Int)] w fun e w' => ∃ v, e = .returned v ∧ Dn w' v (fdy f) ∧ Ext w w' := by
  have HT := Lib.hid hT
  clear hT
  cases hfin : finB f with
  | false =>
    have CF := Lib.hid (refFin_any f hf false hfin)
    have HD := Lib.hid (show fdy f = none by unfold fdy; rw [hfin]; rfl)
    clear hfin hf
    go_enter Tryd.func23, Tryd.ntmps23
    go_upto_region 1 with fail
    obtain ⟨W, hW, hB, r1, hz⟩ := dbox_new w false false none 0 0 0
    rw [← hW]
    clear hW
    generalize hBe : w.heap.size = B at *
    have HBe := Lib.hid hBe
    clear hBe hz
    go_wp2_with fail
    refine (CF.out _).mono ?_
    rintro e w1 ⟨rfl, rfl⟩
    go_wp2_with fail
    refine (refBad_any _).mono ?_
    rintro e w1 ⟨rfl, hw1⟩
    have c1 := r1.below hw1
    obtain ⟨hB2, hB2'⟩ := bnext hB (Nat.le_of_lt r1.lt) hw1
    have q0 := c1.c0
    have q1 := c1.c1
    have q2 := c1.c2
    have q3 := c1.c3
    have f0 := c1.f 0
    have f1 := c1.f 1
    have f2 := c1.f 2
    have f3 := c1.f 3
    have hres := dn_stored c1 (dn_bad w1) w hB2 (Nat.le_refl _)
    have z3 := c1.stored true false none 0 0 0
    have z0 := z3.c0
    have z1 := z3.c1
    have z2 := z3.c2
    have z4 := z3.c3
    have HRES := Lib.hid hres; clear hres z3
    go_wp2
    refine bodyPost_ret (v := .agg #[.bool true, .bool false, .slice none 0 0, .int .i64 0]) (by simp [results, Tryd.results23, go_sem, z0, z1, z2, z4]) rfl ⟨_, rfl, ?_, ?_⟩
    · rw [HD.out]; exact HRES.out.1
    · show Below _ _ _; rw [HBe.out]; exact HRES.out.2
  | true =>
    have CF := Lib.hid (refFin_any f hf true hfin)
    obtain ⟨ng, hng⟩ : ∃ ng, fneg f = ng := ⟨_, rfl⟩
    have CM := Lib.hid (refMinus_any f hf ng hng)
    obtain ⟨h1, h2⟩ := and_fields f hf
    obtain ⟨q, hq⟩ : ∃ q : Nat, f / 4503599627370496 % 2048 = q := ⟨_, rfl⟩
    obtain ⟨r, hr⟩ : ∃ r : Nat, f % 4503599627370496 = r := ⟨_, rfl⟩
    obtain ⟨hm, hq', hr'⟩ := kind_fields hq hr
    rw [hq] at h1
    rw [hr] at h2
    have hfld : ffld f = q := by unfold ffld; rw [hm]; omega
    have hfr : fmag f % 4503599627370496 = r := by rw [hm]; omega
    by_cases c : q = 0
    · subst c
      have HDY := Lib.hid (fdy_make (f := f) (S := r) (k := 0) (E := -1074) hfin (by unfold sig; rw [if_pos hfld, hm]; omega) (by unfold fsh; rw [hfld]) (by omega))
      rw [hng] at HDY
      have hS0 : (r : Int) < 9007199254740992 := by omega
      clear hfld hfr hm hq hr hng hf hfin hq' hr'
      go_enter Tryd.func23, Tryd.ntmps23
      go_upto_region 1 with fail
      obtain ⟨W, hW, hB, r1, hz⟩ := dbox_new w false false none 0 0 0
      rw [← hW]
      clear hW
      have HT := Lib.hid (HT.out.below hB)
      generalize hBe : w.heap.size = B at *
      have HBe := Lib.hid hBe
      clear hBe hz
      go_wp2_with fail
      refine (CF.out _).mono ?_
      rintro e w1 ⟨rfl, rfl⟩
      go_wp2_with fail
      refine (CM.out _).mono ?_
      rintro e w1 ⟨rfl, rfl⟩
      go_wp2_with fail
      obtain ⟨V, hV, hE, hsl, hz⟩ := slice_two W ((r : Int) % 4294967296) ((r : Int) / 4294967296) (by omega) (by omega)
      rw [← hV]
      clear hV
      have hbg : Bg V ng (some ⟨W.heap.size, 0, none⟩) 2 2 (if ng then -(r : Int) else (r : Int)) := ⟨⟨_, hsl, sgd_two.symm⟩, by omega⟩
      have HT := Lib.hid (HT.out.below hE)
      have c1 := r1.below hE
      obtain ⟨hB2, hB2'⟩ := bnext hB (Nat.le_of_lt r1.lt) hE
      have hbl : blen (if ng then -(r : Int) else (r : Int)).natAbs ≤ 1000000 := by
        have h : (if ng then -(r : Int) else (r : Int)).natAbs < 2 ^ 53 := by cases ng <;> simp <;> omega
        exact Nat.le_trans (blen_le_of_lt h) (by omega)
      refine (refMake_any ng _ 2 2 _ (-1074) V hbg hbl (by omega) (by omega) HT.out).mono ?_
      rintro e w5 ⟨v, rfl, hr2, hw5⟩
      rw [HDY.out] at hr2
      have c1 := c1.below hw5
      obtain ⟨hB4, hB4'⟩ := bnext hB2 hB2' hw5
      obtain ⟨rb, rn, ro2, rk, rc, re, rfl⟩ := hr2.parts
      clear hbg hbl hsl hE hw5 hB2 hB r1 h1 h2
      have q0 := c1.c0
      have q1 := c1.c1
      have q2 := c1.c2
      have q3 := c1.c3
      have f0 := c1.f 0
      have f1 := c1.f 1
      have f2 := c1.f 2
      have f3 := c1.f 3
      have hres := dn_stored c1 hr2 w hB4 (Nat.le_refl _)
      have z3 := c1.stored rb rn ro2 rk rc re
      have z0 := z3.c0
      have z1 := z3.c1
      have z2 := z3.c2
      have z4 := z3.c3
      have HRES := Lib.hid hres; clear hres z3
      go_wp2
      refine bodyPost_ret (v := .agg #[.bool rb, .bool rn, .slice ro2 rk rc, .int .i64 re]) (by simp [results, Tryd.results23, go_sem, z0, z1, z2, z4]) rfl ⟨_, rfl, ?_, ?_⟩
      · exact HRES.out.1
      · show Below _ _ _; rw [HBe.out]; exact HRES.out.2
    · have hor := or_hidden hr'
      obtain ⟨S, hS⟩ : ∃ S : Nat, r + 4503599627370496 = S := ⟨_, rfl⟩
      rw [hS] at hor
      have HDY := Lib.hid (fdy_make (f := f) (S := S) (k := q - 1) (E := (q : Int) - 1075) hfin (by unfold sig; rw [if_neg (by rw [hfld]; exact c), hfr, hS]) (by unfold fsh; rw [hfld]) (by omega))
      rw [hng] at HDY
      have hS0 : (S : Int) < 9007199254740992 := by omega
      have hq0 : 0 < q := by omega
      have hq1 : q < 2048 := by omega
      clear hfld hfr hm hq hr hng hf hfin hq' hr' hS c
      go_enter Tryd.func23, Tryd.ntmps23
      go_upto_region 1 with fail
      obtain ⟨W, hW, hB, r1, hz⟩ := dbox_new w false false none 0 0 0
      rw [← hW]
      clear hW
      have HT := Lib.hid (HT.out.below hB)
      generalize hBe : w.heap.size = B at *
      have HBe := Lib.hid hBe
      clear hBe hz
      go_wp2_with fail
      refine (CF.out _).mono ?_
      rintro e w1 ⟨rfl, rfl⟩
      go_upto_region 4 with fail
      go_upto_region 5 with fail
      go_upto_region 6 with fail
      go_upto_region 7 with fail
      go_upto_region 8 with fail
      go_wp2_with fail
      refine (CM.out _).mono ?_
      rintro e w1 ⟨rfl, rfl⟩
      go_wp2_with fail
      obtain ⟨V, hV, hE, hsl, hz⟩ := slice_two W ((S : Int) % 4294967296) ((S : Int) / 4294967296) (by omega) (by omega)
      rw [← hV]
      clear hV
      have hbg : Bg V ng (some ⟨W.heap.size, 0, none⟩) 2 2 (if ng then -(S : Int) else (S : Int)) := ⟨⟨_, hsl, sgd_two.symm⟩, by omega⟩
      have HT := Lib.hid (HT.out.below hE)
      have c1 := r1.below hE
      obtain ⟨hB2, hB2'⟩ := bnext hB (Nat.le_of_lt r1.lt) hE
      have hbl : blen (if ng then -(S : Int) else (S : Int)).natAbs ≤ 1000000 := by
        have h : (if ng then -(S : Int) else (S : Int)).natAbs < 2 ^ 53 := by cases ng <;> simp <;> omega
        exact Nat.le_trans (blen_le_of_lt h) (by omega)
      refine (refMake_any ng _ 2 2 _ ((q : Int) - 1075) V hbg hbl (by omega) (by omega) HT.out).mono ?_
      rintro e w5 ⟨v, rfl, hr2, hw5⟩
      rw [HDY.out] at hr2
      have c1 := c1.below hw5
      obtain ⟨hB4, hB4'⟩ := bnext hB2 hB2' hw5
      obtain ⟨rb, rn, ro2, rk, rc, re, rfl⟩ := hr2.parts
      clear hbg hbl hsl hE hw5 hB2 hB r1 h1 h2
      have q0 := c1.c0
      have q1 := c1.c1
      have q2 := c1.c2
      have q3 := c1.c3
      have f0 := c1.f 0
      have f1 := c1.f 1
      have f2 := c1.f 2
      have f3 := c1.f 3
      have hres := dn_stored c1 hr2 w hB4 (Nat.le_refl _)
      have z3 := c1.stored rb rn ro2 rk rc re
      have z0 := z3.c0
      have z1 := z3.c1
      have z2 := z3.c2
      have z4 := z3.c3
      have HRES := Lib.hid hres; clear hres z3
      go_wp2
      refine bodyPost_ret (v := .agg #[.bool rb, .bool rn, .slice ro2 rk rc, .int .i64 re]) (by simp [results, Tryd.results23, go_sem, z0, z1, z2, z4]) rfl ⟨_, rfl, ?_, ?_⟩
      · exact HRES.out.1
      · show Below _ _ _; rw [HBe.out]; exact HRES.out.2
end Go.Proofs.YtjohpdobnedilaaDoor
