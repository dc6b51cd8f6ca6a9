import Derived.Test.YtecaaklbhhjcjaaGreatDoorIRelU14
import Derived.Test.YtecaaklbhhjcjaaGreatDoorIRelU6
import Derived.Test.YtecaaklbhhjcjaaGreatDoorIRelU1
import Derived.Laws.Bits64
import Derived.Laws.Bits64b
import Derived.Deep.QuietTactic
import Derived.BigQuiet
import Derived.Test.YtecaaklbhhjcjaaGreatDoorIRelU21
import Derived.Test.YtecaaklbhhjcjaaGreatDoorIRelU23
import Derived.Test.YtecaaklbhhjcjaaGreatDoorIRelU24
import Derived.Deep.CutRange
import Derived.Deep.RegionHeld3
namespace Go.Proofs.YtecaaklbhhjcjaaGreatDoor
open Go.RowKit

theorem box_two (w : World) (lo hi : Int) (h0 : 0 ≤ lo ∧ lo < 4294967296) (h1 : 0 ≤ hi ∧ hi < 4294967296) :
    ∃ W, W = (w.alloc (.cells #[.bool false, .slice none 0 0] 24)).alloc (.cells #[.int .u32 lo, .int .u32 hi] 63) ∧ Below w.heap.size w W ∧ Box W w.heap.size false none 0 0 ∧ Sl W (some ⟨w.heap.size + 1, 0, none⟩) 2 2 [lo, hi] ∧ w.heap.size + 2 ≤ W.heap.size := by
  refine ⟨_, rfl, ((Below.refl _ w).alloc (Nat.le_refl _) _).alloc (by simp) _, ?_, ?_, by simp⟩
  · exact (Box.new w false none 0 0).below ((Below.refl _ _).alloc (Nat.le_refl _) _)
  · have hb : Blk ((w.alloc (.cells #[.bool false, .slice none 0 0] 24)).alloc (.cells #[.int .u32 lo, .int .u32 hi] 63)) (w.heap.size + 1) [lo, hi] := by
      have := heap_alloc_new (w.alloc (.cells #[.bool false, .slice none 0 0] 24)) (.cells #[.int .u32 lo, .int .u32 hi] 63)
      simpa [Blk] using this
    exact hb.sl (Wf.cons h0 (Wf.cons h1 Wf.nil)) rfl (by omega) (Nat.le_refl _)

set_option maxRecDepth 100000 in
set_option maxHeartbeats 1000000 in
theorem refFromInt_any (x : Int) (w : World) (h0 : -9223372036854775808 ≤ x) (h1 : x ≤ 9223372036854775807) :
    Calls Tryz.prog 70 #[.int .i64 x] w fun e w' => ∃ nr ro k cr, e = .returned (.agg #[.bool nr, .slice ro k cr]) ∧ Bn w' nr ro k cr x ∧ Ext w w' := by
  by_cases hx : x < 0
  · have hv0 : 0 ≤ -(x + 1) + 1 := by omega
    have hv1 : -(x + 1) + 1 ≤ 9223372036854775808 := by omega
    go_enter Tryz.func70, Tryz.ntmps70
    go_wp2_with fail
    obtain ⟨W, hW, hB, hbx, hsl, hz⟩ := box_two w ((-(x + 1) + 1) % 4294967296) ((-(x + 1) + 1) / 4294967296) (by omega) (by omega)
    rw [← hW]
    clear hW
    generalize hBe : w.heap.size = B at *
    have HBe := Lib.hid hBe; clear hBe
    have hnum : sgd true [(-(x + 1) + 1) % 4294967296, (-(x + 1) + 1) / 4294967296] = x := by
      unfold sgd
      rw [num_two]
      simp <;> omega
    refine (make1_any true _ _ _ _ W hsl).mono ?_
    rintro e w1 ⟨nr, ro, k, rc, rfl, hs1, hk, hw1⟩
    rw [hnum] at hs1
    have b1 := hbx.below hw1
    obtain ⟨h1, z1⟩ := bnext hB (by omega) hw1
    have q0 := b1.c0
    have q1 := b1.c1
    have q2 := b1.f 0
    have q3 := b1.f 1
    have hst := b1.stored nr ro k rc
    have u0 := hst.c0
    have u1 := hst.c1
    have HRES := Lib.hid (show Bn ((w1.setCell ⟨B, 0, none⟩ (.bool nr)).setCell ⟨B, 1, none⟩ (.slice ro k rc)) nr ro k rc x from ⟨hs1.neg, hs1.sl.only_box b1 (only_set2 _ _ _ _)⟩)
    have HBL := Lib.hid (h1.trans ((only_set2 w1 B (.bool nr) (.slice ro k rc)).below (Nat.le_refl B)))
    clear hnum hs1 h1 hw1 hB hbx hsl hst
    go_wp2
    refine bodyPost_ret (v := .agg #[.bool nr, .slice ro k rc]) (by simp [results, Tryz.results70, go_sem, u0, u1]) rfl ⟨_, ro, k, rc, rfl, HRES.out, ?_⟩
    rw [Ext, HBe.out]; exact HBL.out
  · have hv0 : 0 ≤ x := by omega
    have hv1 : x ≤ 9223372036854775808 := by omega
    go_enter Tryz.func70, Tryz.ntmps70
    go_wp2_with fail
    obtain ⟨W, hW, hB, hbx, hsl, hz⟩ := box_two w ((x) % 4294967296) ((x) / 4294967296) (by omega) (by omega)
    rw [← hW]
    clear hW
    generalize hBe : w.heap.size = B at *
    have HBe := Lib.hid hBe; clear hBe
    have hnum : sgd false [(x) % 4294967296, (x) / 4294967296] = x := by
      unfold sgd
      rw [num_two]
      simp <;> omega
    refine (make1_any false _ _ _ _ W hsl).mono ?_
    rintro e w1 ⟨nr, ro, k, rc, rfl, hs1, hk, hw1⟩
    rw [hnum] at hs1
    have b1 := hbx.below hw1
    obtain ⟨h1, z1⟩ := bnext hB (by omega) hw1
    have q0 := b1.c0
    have q1 := b1.c1
    have q2 := b1.f 0
    have q3 := b1.f 1
    have hst := b1.stored nr ro k rc
    have u0 := hst.c0
    have u1 := hst.c1
    have HRES := Lib.hid (show Bn ((w1.setCell ⟨B, 0, none⟩ (.bool nr)).setCell ⟨B, 1, none⟩ (.slice ro k rc)) nr ro k rc x from ⟨hs1.neg, hs1.sl.only_box b1 (only_set2 _ _ _ _)⟩)
    have HBL := Lib.hid (h1.trans ((only_set2 w1 B (.bool nr) (.slice ro k rc)).below (Nat.le_refl B)))
    clear hnum hs1 h1 hw1 hB hbx hsl hst
    go_wp2
    refine bodyPost_ret (v := .agg #[.bool nr, .slice ro k rc]) (by simp [results, Tryz.results70, go_sem, u0, u1]) rfl ⟨_, ro, k, rc, rfl, HRES.out, ?_⟩
    rw [Ext, HBe.out]; exact HBL.out
end Go.Proofs.YtecaaklbhhjcjaaGreatDoor

namespace Go.Proofs.YtecaaklbhhjcjaaGreatDoor
open Go.RowKit

/-- does it fit into an int? -/
def fitsI (x : Int) : Bool := decide (-9223372036854775808 ≤ x ∧ x ≤ 9223372036854775807)
def intOut (x : Int) : Int := if -9223372036854775808 ≤ x ∧ x ≤ 9223372036854775807 then x else 0

theorem fits_yes {x : Int} (h : -9223372036854775808 ≤ x ∧ x ≤ 9223372036854775807) : fitsI x = true ∧ intOut x = x := ⟨decide_eq_true h, if_pos h⟩
theorem fits_no {x : Int} (h : ¬ (-9223372036854775808 ≤ x ∧ x ≤ 9223372036854775807)) : fitsI x = false ∧ intOut x = 0 := ⟨decide_eq_false h, if_neg h⟩

end Go.Proofs.YtecaaklbhhjcjaaGreatDoor

namespace Go.Proofs.YtecaaklbhhjcjaaGreatDoor
open Go.RowKit

/-- the first j limbs of a number as a word -/
def lowW (a j : Nat) : Int := ((a % 4294967296 ^ j : Nat) : Int)

theorem lowW_zero (a : Nat) : lowW a 0 = 0 := by unfold lowW; rw [Nat.pow_zero, Nat.mod_one]; rfl
theorem lowW_one {a : Nat} : lowW a 1 = (limbs a).getD 0 0 := by
  rw [limbs_at, Nat.pow_zero, Nat.div_one, lowW, Nat.pow_one]
theorem lowW_two {a : Nat} : lowW a 2 = (limbs a).getD 0 0 + (limbs a).getD 1 0 * 4294967296 := by
  rw [limbs_at, limbs_at, Nat.pow_zero, Nat.div_one, Nat.pow_one]
  unfold lowW
  rw [show (4294967296 : Nat) ^ 2 = 4294967296 * 4294967296 from rfl]
  omega
theorem lowW_all {a k : Nat} (h : (limbs a).length = k) : lowW a k = (a : Int) := by
  have h1 := (limbs_len_le a k).1 (by omega)
  unfold lowW
  rw [Nat.mod_eq_of_lt h1]
theorem or_none64 {y : Int} (y0 : 0 ≤ y) (y1 : y < 4294967296) : bits BinOp.or IntKind.u64 0 y = y := by
  obtain ⟨a, rfl⟩ := Int.eq_ofNat_of_zero_le y0
  have e := bits_or_u64_nat 0 a (by omega) (by omega)
  rw [Nat.zero_or] at e
  exact e

set_option maxRecDepth 100000 in
set_option maxHeartbeats 2000000 in
theorem refInt_any (nb : Bool) (ao : Option Addr) (n ca : Nat) (x : Int) (w : World) (h : Bg w nb ao n ca x) :
    Calls Tryz.prog 231 #[.agg #[.bool nb, .slice ao n ca]] w fun e w' => e = .returned (.tuple #[.int .i64 (intOut x), .bool (fitsI x)]) ∧ Ext w w' := by
  obtain ⟨ro, hro⟩ : ∃ v : Value, v = .int .i64 (intOut x) := ⟨_, rfl⟩
  obtain ⟨rb, hrb⟩ : ∃ v : Value, v = .bool (fitsI x) := ⟨_, rfl⟩
  rw [← hro, ← hrb]
  have HRO := Lib.hid hro; clear hro
  have HRB := Lib.hid hrb; clear hrb
  go_enter Tryz.func231, Tryz.ntmps231
  go_wp2_with fail
  obtain ⟨W, hW, hB, hbx, hsz⟩ := box_new w nb ao n ca
  rw [← hW]
  clear hW
  have h0 := h.below hB
  generalize hBe : w.heap.size = B at *
  have HBe := Lib.hid hBe; clear hBe h
  have k0 := hbx.c0
  have k1 := hbx.c1
  go_wp2_with fail
  refine (refNorm_any nb ao n ca x W h0).mono ?_
  rintro e w1 ⟨nr, xo, k, rc, rfl, hs1, hk, hw1⟩
  have b1 := hbx.below hw1
  obtain ⟨h1, z1⟩ := bnext hB (by omega) hw1
  have q0 := b1.c0
  have q1 := b1.c1
  have q2 := b1.f 0
  have q3 := b1.f 1
  have bst := b1.stored nr xo k rc
  have u0 := bst.c0
  have u1 := bst.c1
  have hsl := hs1.sl.only_box b1 (only_set2 w1 B (.bool nr) (.slice xo k rc))
  have HBL := Lib.hid (h1.trans ((only_set2 w1 B (.bool nr) (.slice xo k rc)).below (Nat.le_refl B)))
  have HN := Lib.hid hs1.neg
  generalize hW2 : (w1.setCell ⟨B, 0, none⟩ (.bool nr)).setCell ⟨B, 1, none⟩ (.slice xo k rc) = W2 at *
  have HW2 := Lib.hid hW2
  clear h0 hB hbx k0 k1 h1 hw1 b1 bst hs1
  have hkb := hsl.big
  have hxl := hsl.len
  go_upto_region 2 with fail
  clear hW2 q0 q1 q2 q3
  obtain ⟨a, ha⟩ : ∃ a, x.natAbs = a := ⟨_, rfl⟩
  rw [ha] at hsl hxl
  have HXL := Lib.hid hxl; clear hxl
  have hxa : x = if nr then -(a : Int) else (a : Int) := by
    rw [HN.out]
    by_cases hx : x < 0
    · simp only [hx, decide_true, if_true]; omega
    · simp only [hx, decide_false, Bool.false_eq_true, if_false]; omega
  have hxn : nr = true → a ≠ 0 := by
    intro e; rw [HN.out] at e; simp at e; omega
  have HXA := Lib.hid hxa; clear hxa
  have HXN := Lib.hid hxn; clear hxn ha
  by_cases hk2 : k ≤ 2
  · have hlt := (limbs_len_le a 2).1 (by rw [HXL.out]; exact hk2)
    have hal : a < 18446744073709551616 := hlt
    clear hlt
    go_wp2
    go_loopw [4, 5] (fun u i wr => ∃ j : Nat, j ≤ k ∧ i = .int .i64 j ∧ u = .int .u64 (lowW a j) ∧ wr = W2) (fun _ i _ => k - (intOf i).toNat)
    case atStart => exact ⟨0, Nat.zero_le _, rfl, by rw [lowW_zero], rfl⟩
    case round =>
      obtain ⟨j, hj, rfl, rfl, rfl⟩ := hrel
      by_cases hlt : j < k
      · obtain ⟨b, off, e0, hc⟩ := hsl.cells (by rw [HXL.out]; omega)
        subst e0
        have c1 := hc j (by rw [HXL.out]; omega)
        have hyr := (Wf.limbs a).getD j
        clear hc
        obtain ⟨y, hy⟩ : ∃ y, (limbs a).getD j 0 = y := ⟨_, rfl⟩
        rw [hy] at c1 hyr
        obtain ⟨y0, y1⟩ := hyr
        have HY := Lib.hid hy; clear hy
        rcases (show j = 0 ∨ j = 1 by omega) with h | h
        · subst h
          have hor := or_none64 y0 y1
          rw [lowW_zero]
          rw [Nat.add_zero] at c1
          go_wp2
          go_roundw
          case rel => exact ⟨1, by omega, by go_num, by rw [lowW_one, HY.out], by first | rfl | trivial⟩
          case measure => simp [intOf] <;> omega
        · subst h
          obtain ⟨z, hz⟩ : ∃ z, lowW a 1 = z := ⟨_, rfl⟩
          have hzr := (Wf.limbs a).getD 0
          rw [← lowW_one, hz] at hzr
          have hor := or64 hzr.1 hzr.2 y0 y1
          rw [hz]
          have HZ := Lib.hid hz; clear hz
          go_wp2
          go_roundw
          case rel => exact ⟨2, by omega, by go_num, by rw [lowW_two, HY.out, ← lowW_one, HZ.out], by first | rfl | trivial⟩
          case measure => simp [intOf] <;> omega
      · obtain rfl : j = k := by omega
        rw [lowW_all HXL.out]
        clear hsl
        by_cases h63 : a ≤ 9223372036854775807
        · cases nr with
          | true =>
            have hy := fits_yes (x := x) (by have := HXA.out; simp only [if_true] at this; omega)
            have hx2 : x = -(a : Int) := HXA.out
            have ha0 := HXN.out rfl
            have HY := Lib.hid hy; clear hy
            have HX2 := Lib.hid hx2; clear hx2
            go_wp2
            go_ret2
            refine ⟨?_, by rw [Ext, HBe.out]; exact HBL.out⟩
            rw [HRO.out, HRB.out, HY.out.1, HY.out.2, HX2.out, show -(a : Int) = -((a : Int) - 1) - 1 by omega]; rfl
          | false =>
            have hy := fits_yes (x := x) (by have := HXA.out; simp only [Bool.false_eq_true, if_false] at this; omega)
            have hx2 : x = (a : Int) := HXA.out
            have HY := Lib.hid hy; clear hy
            have HX2 := Lib.hid hx2; clear hx2
            go_wp2
            go_ret2
            refine ⟨?_, by rw [Ext, HBe.out]; exact HBL.out⟩
            rw [HRO.out, HRB.out, HY.out.1, HY.out.2, HX2.out]; rfl
        · cases nr with
          | true =>
            by_cases h64 : a = 9223372036854775808
            · subst h64
              have hx : x = -9223372036854775808 := by have := HXA.out; simp only [if_true] at this; omega
              have HX := Lib.hid hx; clear hx
              go_wp2
              go_ret2
              refine ⟨?_, by rw [Ext, HBe.out]; exact HBL.out⟩
              rw [HRO.out, HRB.out, HX.out]; rfl
            · have hy := fits_no (x := x) (by have := HXA.out; simp only [if_true] at this; omega)
              have HY := Lib.hid hy; clear hy
              go_wp2
              go_ret2
              refine ⟨?_, by rw [Ext, HBe.out]; exact HBL.out⟩
              rw [HRO.out, HRB.out, HY.out.1, HY.out.2]; rfl
          | false =>
            have hy := fits_no (x := x) (by have := HXA.out; simp only [Bool.false_eq_true, if_false] at this; omega)
            have HY := Lib.hid hy; clear hy
            go_wp2
            go_ret2
            refine ⟨?_, by rw [Ext, HBe.out]; exact HBL.out⟩
            rw [HRO.out, HRB.out, HY.out.1, HY.out.2]; rfl
  · have h9 : ¬ a < 4294967296 ^ 2 := by
      have := limbs_len_le a 2
      rw [HXL.out] at this
      omega
    have h10 : ¬ a < 18446744073709551616 := h9
    have hy := fits_no (x := x) (by have := HXA.out; cases nr <;> simp only [Bool.false_eq_true, if_false, if_true] at this <;> omega)
    have HY := Lib.hid hy; clear hy h9 h10 hsl
    go_wp2
    go_ret2
    refine ⟨?_, by rw [Ext, HBe.out]; exact HBL.out⟩
    rw [HRO.out, HRB.out, HY.out.1, HY.out.2]; rfl
end Go.Proofs.YtecaaklbhhjcjaaGreatDoor

namespace Go.Proofs.YtecaaklbhhjcjaaGreatDoor
open Go.RowKit

section
variable {W w : World} {L : List Ent} {u v : Value} {x y : Int} {N M : Nat} {c d : Bool}
end

/-- two boxes -/
theorem box_pair (w : World) (nb : Bool) (ao : Option Addr) (n ca : Nat) (mb : Bool) (bo : Option Addr) (m cb : Nat) :
    ∃ W, W = (w.alloc (.cells #[.bool nb, .slice ao n ca] 24)).alloc (.cells #[.bool mb, .slice bo m cb] 24) ∧ Ext w W ∧ Box W w.heap.size nb ao n ca ∧ Box W (w.heap.size + 1) mb bo m cb := by
  refine ⟨_, rfl, ((Below.refl _ w).alloc (Nat.le_refl _) _).alloc (by simp) _, ?_, ?_⟩
  · exact (Box.new w nb ao n ca).below ((Below.refl _ _).alloc (Nat.le_refl _) _)
  · have := Box.new (w.alloc (.cells #[.bool nb, .slice ao n ca] 24)) mb bo m cb
    simpa using this

set_option maxRecDepth 100000 in
set_option maxHeartbeats 4000000 in
theorem refSub_any (nb mb : Bool) (ao : Option Addr) (n ca : Nat) (bo : Option Addr) (m cb : Nat) (x y : Int) (w : World) (ha : Bg w nb ao n ca x) (hb : Bg w mb bo m cb y) :
    Calls Tryz.prog 71 #[.agg #[.bool nb, .slice ao n ca], .agg #[.bool mb, .slice bo m cb]] w fun e w' => ∃ nr ro k cr, e = .returned (.agg #[.bool nr, .slice ro k cr]) ∧ Bn w' nr ro k cr (x - y) ∧ Ext w w' := by
  go_enter Tryz.func71, Tryz.ntmps71
  go_wp2_with fail
  obtain ⟨W, hW, hB, hbx, hby, hrx, hz⟩ := boxes2 w nb ao n ca mb bo m cb
  rw [← hW]
  clear hW
  have ha0 := ha.below hB
  have hb0 := hb.below hB
  generalize hBe : w.heap.size = B at *
  have HBe := Lib.hid hBe; clear hBe
  have hBelow := Lib.hid hB
  clear ha hb hB
  have k0 := hbx.c0
  have k1' := hbx.c1
  have l0 := hby.c0
  have l1' := hby.c1
  go_region_held3 (fun w' => w'.cell? ⟨B, 0, none⟩ = some (.bool nb) ∧ w'.cell? ⟨B, 1, none⟩ = some (.slice ao n ca) ∧ w'.cell? ⟨B + 1, 0, none⟩ = some (.bool mb) ∧ w'.cell? ⟨B + 1, 1, none⟩ = some (.slice bo m cb))
    (first | exact ⟨k0, k1', l0, l1'⟩ | exact ⟨x1.c0, x1.c1, v1.c0, v1.c1⟩ | exact ⟨x2.c0, x2.c1, v2.c0, v2.c1⟩ | (refine ⟨?_, ?_, ?_, ?_⟩ <;> go_simp))
    (first
      | (go_at_call 146; refine (refNeg_any mb bo m cb y _ (by exact hb0.drew)).mono ?_; rintro e w1 ⟨gn, go', gk, gc, rfl, hg1, hgk, hw1⟩; have x1 := hbx.drew.below hw1; have v1 := hby.drew.below hw1; have y1 := hrx.drew.below hw1; have e0 := x1.c0; have e1 := x1.c1; have e2 := v1.c0; have e3 := v1.c1)
      | (go_at_call 69; refine (refAdd_any nb gn ao n ca go' gk gc x (-y) _ (by exact ha0.drew.below hw1) (by exact hg1.bg (Nat.le_trans hgk hb0.small))).mono ?_; rintro e w2 ⟨nr, ro, k, rc, rfl, hs2, hw2⟩; have x2 := x1.below hw2; have v2 := v1.below hw2; have y2 := y1.below hw2; clear e0 e1 e2 e3; have e0 := x2.c0; have e1 := x2.c1; have e2 := v2.c0; have e3 := v2.c1; have q0 := y2.c0; have q1 := y2.c1; have q2 := y2.f 0; have q3 := y2.f 1))
  obtain ⟨b1, l1⟩ := bnext hBelow.out (by omega) (Below.refl _ W).drew
  obtain ⟨b2, l2⟩ := bnext b1 l1 hw1
  obtain ⟨b3, l3⟩ := bnext b2 l2 hw2
  have hst := y2.stored nr ro k rc
  have u0 := hst.c0
  have u1 := hst.c1
  have HRES := Lib.hid (show Bn ((w2.setCell ⟨B + 1 + 1, 0, none⟩ (.bool nr)).setCell ⟨B + 1 + 1, 1, none⟩ (.slice ro k rc)) nr ro k rc (x - y) from by
    rw [Int.sub_eq_add_neg]; exact ⟨hs2.neg, hs2.sl.only_box y2 (only_set2 _ _ _ _)⟩)
  have HBL := Lib.hid (b3.trans ((only_set2 w2 (B + 1 + 1) (.bool nr) (.slice ro k rc)).below (by omega)))
  clear b1 b2 b3 hw1 hw2 hs2 hg1 hst ha0 hb0
  go_wp2
  refine bodyPost_ret (v := .agg #[.bool nr, .slice ro k rc]) (by simp [results, Tryz.results71, go_sem, u0, u1]) rfl ⟨_, ro, k, rc, rfl, HRES.out, ?_⟩
  rw [Ext, HBe.out]; exact HBL.out

theorem sgn3_sub (x y : Int) : sgn3 (x - y) 0 = sgn3 x y := by unfold sgn3; split <;> split <;> (try split) <;> omega

set_option maxRecDepth 100000 in
set_option maxHeartbeats 4000000 in
theorem refCmp_any (nb mb : Bool) (ao : Option Addr) (n ca : Nat) (bo : Option Addr) (m cb : Nat) (x y : Int) (w : World) (ha : Bg w nb ao n ca x) (hb : Bg w mb bo m cb y) (hn : n ≤ 100000) (hm : m ≤ 100000) :
    Calls Tryz.prog 184 #[.agg #[.bool nb, .slice ao n ca], .agg #[.bool mb, .slice bo m cb]] w fun e w' => e = .returned (.int .i64 (sgn3 x y)) ∧ Ext w w' := by
  have hk : ∀ (w' : World) (nr : Bool) (ro : Option Addr) (k rc : Nat), Bn w' nr ro k rc (x - y) → k ≤ 1000000000 := by
    intro w' nr ro k rc h
    obtain ⟨⟨zs, hz, hx⟩, _⟩ := ha
    obtain ⟨⟨ys, hy, hyy⟩, _⟩ := hb
    have h1 := ok_raw (nb := nb) hz 100000 hn (by omega)
    have h2 := ok_raw (nb := mb) hy 100000 hm (by omega)
    obtain ⟨_, _, _, _, _, _, _, a1, _⟩ := h1
    obtain ⟨_, _, _, _, _, _, _, a2, _⟩ := h2
    simp only at a1 a2
    rw [← hx] at a1
    rw [← hyy] at a2
    have h3 := len_of_lt (abs_sub a1 a2)
    rw [h.sl.len] at h3
    omega
  have HK := Lib.hid hk; clear hk
  go_enter Tryz.func184, Tryz.ntmps184
  go_wp2_with fail
  obtain ⟨W, hW, hB, hbx, hby⟩ := box_pair w nb ao n ca mb bo m cb
  rw [← hW]
  clear hW
  have ha0 := ha.below hB
  have hb0 := hb.below hB
  have HB := Lib.hid hB
  generalize hBe : w.heap.size = B at *
  clear ha hb hB hBe
  have k0 := hbx.c0
  have k1' := hbx.c1
  have l0 := hby.c0
  have l1' := hby.c1
  go_wp2_with fail
  refine (refSub_any nb mb ao n ca bo m cb x y W ha0 hb0).mono ?_
  rintro e w1 ⟨nr, ro, k, rc, rfl, hs1, hw1⟩
  go_wp2_with fail
  refine (refSign_any nr ro k rc (x - y) _ (hs1.bg (HK.out _ _ _ _ _ hs1))).mono ?_
  rintro e w2 ⟨rfl, hw2⟩
  go_wp2
  go_ret
  exact ⟨by rw [sgn3_sub]; rfl, HB.out.trans (Ext.trans hw1 hw2)⟩

section
variable {W w : World} {L : List Ent} {u v : Value} {x y : Int} {N M : Nat} {c d : Bool}
end
end Go.Proofs.YtecaaklbhhjcjaaGreatDoor
