import Derived.Test.YtecaaklbhhjcjaaGreatDoorIRelU15
import Derived.Test.YtecaaklbhhjcjaaGreatDoorIRelU19
import Derived.Test.YtecaaklbhhjcjaaGreatDoorIRelU22
import Derived.Test.YtecaaklbhhjcjaaGreatDoorIRelU18
import Derived.Test.YtecaaklbhhjcjaaGreatDoorIRelU6
import Derived.Deep.RegionHeld3
import Derived.Test.YtecaaklbhhjcjaaGreatDoorIRelU13
import Derived.Deep.RegionLaw
import Derived.Deep.CutRange
import Derived.Test.YtecaaklbhhjcjaaGreatDoorIRelU14
import Derived.Test.YtecaaklbhhjcjaaGreatDoorIRelU4
import Derived.Test.YtecaaklbhhjcjaaGreatDoorIRelU5
import Derived.Deep.QuietTactic
import Derived.BigQuiet
namespace Go.Proofs.YtecaaklbhhjcjaaGreatDoor
open Go.RowKit

set_option maxRecDepth 100000 in
theorem refFin_any (f : Nat) (hf : f < 18446744073709551616) (b : Bool) (hb : finB f = b) (w : World) :
    Calls Tryz.prog 77 #[.int .u64 (f : Int)] w fun e w' => e = .returned (.bool b) ∧ w = w' := by
  have h1 : (f : Int) / 4503599627370496 = ((f / 4503599627370496 : Nat) : Int) := (Int.natCast_ediv _ _).symm
  have h2 := bits_and_u64_nat (f / 4503599627370496) 2047 (by omega) (by omega)
  rw [show (2047 : Nat) = 2 ^ 11 - 1 from rfl, Nat.and_two_pow_sub_one_eq_mod] at h2
  have h3 : (((f / 4503599627370496 % 2 ^ 11 : Nat) : Int) != 2047) = b := by
    rw [← hb]
    unfold finB fmag
    by_cases h : f % 9223372036854775808 < 9218868437227405312
    · rw [decide_eq_true h]; simp; omega
    · rw [decide_eq_false h]; simp; omega
  obtain ⟨q, hq⟩ : ∃ q : Nat, f / 4503599627370496 % 2 ^ 11 = q := ⟨_, rfl⟩
  rw [hq] at h2 h3
  have h2 : bits BinOp.and IntKind.u64 ((f / 4503599627370496 : Nat) : Int) 2047 = (q : Int) := h2
  rw [← h1] at h2
  clear hb hq h1
  cases b
  all_goals
    go_enter Tryz.func77, Tryz.ntmps77
    go_wp2
    go_ret
    exact ⟨ret_bool (by first | rfl | exact h3), rfl⟩
end Go.Proofs.YtecaaklbhhjcjaaGreatDoor

namespace Go.Proofs.YtecaaklbhhjcjaaGreatDoor
open Go.RowKit

/-- two limbs made by a literal -/
theorem slice_two (w : World) (lo hi : Int) (h0 : 0 ≤ lo ∧ lo < 4294967296) (h1 : 0 ≤ hi ∧ hi < 4294967296) :
    ∃ W, W = w.alloc (.cells #[.int .u32 lo, .int .u32 hi] 63) ∧ Ext w W ∧ Sl W (some ⟨w.heap.size, 0, none⟩) 2 2 [lo, hi] ∧ w.heap.size + 1 ≤ W.heap.size := by
  refine ⟨_, rfl, (Below.refl _ w).alloc (Nat.le_refl _) _, ?_, by simp⟩
  have hb : Blk (w.alloc (.cells #[.int .u32 lo, .int .u32 hi] 63)) w.heap.size [lo, hi] := by
    have := heap_alloc_new w (.cells #[.int .u32 lo, .int .u32 hi] 63)
    simpa [Blk] using this
  exact hb.sl (Wf.cons h0 (Wf.cons h1 Wf.nil)) rfl (by omega) (Nat.le_refl _)

theorem fdy_make {f S k : Nat} {E : Int} (hf : finB f = true) (hS : sig f = S) (hk : fsh f = k) (hE : E = -1074 + (k : Int)) : dmk (if fneg f then -(S : Int) else (S : Int)) E = fdy f := by
  unfold fdy
  rw [hf, if_pos rfl]
  have h1 : fzs f = (if fneg f then -(S : Int) else (S : Int)) * 2 ^ k := by
    unfold fzs fz
    rw [hS, hk, Int.natCast_mul, Int.natCast_pow]
    cases fneg f
    · rfl
    · simp only [if_true]; rw [Int.neg_mul]; rfl
  rw [h1, dmk_shift, hE]

theorem sgd_two {b : Bool} {S : Nat} : sgd b [(S : Int) % 4294967296, (S : Int) / 4294967296] = if b then -(S : Int) else (S : Int) := by
  unfold sgd
  rw [num_two]

set_option maxRecDepth 100000 in
set_option maxHeartbeats 4000000 in
theorem refOf_any (f : Nat) (hf : f < 18446744073709551616) (w : World) (hT : Table w) :
    Calls Tryz.prog 109 #[.int .u64 (f : Int)] w fun e w' => ∃ v, e = .returned v ∧ Dn w' v (fdy f) ∧ Ext w w' := by
  have HT := Lib.hid hT
  clear hT
  cases hfin : finB f with
  | false =>
    have CF := Lib.hid (refFin_any f hf false hfin)
    have HD := Lib.hid (show fdy f = none by unfold fdy; rw [hfin]; rfl)
    clear hfin hf
    go_enter Tryz.func109, Tryz.ntmps109
    go_upto_region 1 with fail
    obtain ⟨W, hW, hB, r1, hz⟩ := dbox_new w false false none 0 0 0
    rw [← hW]
    clear hW
    generalize hBe : w.heap.size = B at *
    have HBe := Lib.hid hBe
    clear hBe hz
    go_wp2_with fail
    refine (CF.out _).mono ?_
    rintro e w1 ⟨rfl, rfl⟩
    go_wp2_with fail
    refine (refBad_any _).mono ?_
    rintro e w1 ⟨rfl, hw1⟩
    have c1 := r1.below hw1
    obtain ⟨hB2, hB2'⟩ := bnext hB (Nat.le_of_lt r1.lt) hw1
    have q0 := c1.c0
    have q1 := c1.c1
    have q2 := c1.c2
    have q3 := c1.c3
    have f0 := c1.f 0
    have f1 := c1.f 1
    have f2 := c1.f 2
    have f3 := c1.f 3
    have hres := dn_stored c1 (dn_bad w1) w hB2 (Nat.le_refl _)
    have z3 := c1.stored true false none 0 0 0
    have z0 := z3.c0
    have z1 := z3.c1
    have z2 := z3.c2
    have z4 := z3.c3
    have HRES := Lib.hid hres; clear hres z3
    go_wp2
    refine bodyPost_ret (v := .agg #[.bool true, .bool false, .slice none 0 0, .int .i64 0]) (by simp [results, Tryz.results109, go_sem, z0, z1, z2, z4]) rfl ⟨_, rfl, ?_, ?_⟩
    · rw [HD.out]; exact HRES.out.1
    · show Below _ _ _; rw [HBe.out]; exact HRES.out.2
  | true =>
    have CF := Lib.hid (refFin_any f hf true hfin)
    obtain ⟨ng, hng⟩ : ∃ ng, fneg f = ng := ⟨_, rfl⟩
    have CM := Lib.hid (refMinus_any f hf ng hng)
    obtain ⟨h1, h2⟩ := and_fields f hf
    obtain ⟨q, hq⟩ : ∃ q : Nat, f / 4503599627370496 % 2048 = q := ⟨_, rfl⟩
    obtain ⟨r, hr⟩ : ∃ r : Nat, f % 4503599627370496 = r := ⟨_, rfl⟩
    obtain ⟨hm, hq', hr'⟩ := kind_fields hq hr
    rw [hq] at h1
    rw [hr] at h2
    have hfld : ffld f = q := by unfold ffld; rw [hm]; omega
    have hfr : fmag f % 4503599627370496 = r := by rw [hm]; omega
    by_cases c : q = 0
    · subst c
      have HDY := Lib.hid (fdy_make (f := f) (S := r) (k := 0) (E := -1074) hfin (by unfold sig; rw [if_pos hfld, hm]; omega) (by unfold fsh; rw [hfld]) (by omega))
      rw [hng] at HDY
      have hS0 : (r : Int) < 9007199254740992 := by omega
      clear hfld hfr hm hq hr hng hf hfin hq' hr'
      go_enter Tryz.func109, Tryz.ntmps109
      go_upto_region 1 with fail
      obtain ⟨W, hW, hB, r1, hz⟩ := dbox_new w false false none 0 0 0
      rw [← hW]
      clear hW
      have HT := Lib.hid (HT.out.below hB)
      generalize hBe : w.heap.size = B at *
      have HBe := Lib.hid hBe
      clear hBe hz
      go_wp2_with fail
      refine (CF.out _).mono ?_
      rintro e w1 ⟨rfl, rfl⟩
      go_wp2_with fail
      refine (CM.out _).mono ?_
      rintro e w1 ⟨rfl, rfl⟩
      go_wp2_with fail
      obtain ⟨V, hV, hE, hsl, hz⟩ := slice_two W ((r : Int) % 4294967296) ((r : Int) / 4294967296) (by omega) (by omega)
      rw [← hV]
      clear hV
      have hbg : Bg V ng (some ⟨W.heap.size, 0, none⟩) 2 2 (if ng then -(r : Int) else (r : Int)) := ⟨⟨_, hsl, sgd_two.symm⟩, by omega⟩
      have HT := Lib.hid (HT.out.below hE)
      have c1 := r1.below hE
      obtain ⟨hB2, hB2'⟩ := bnext hB (Nat.le_of_lt r1.lt) hE
      have hbl : blen (if ng then -(r : Int) else (r : Int)).natAbs ≤ 1000000 := by
        have h : (if ng then -(r : Int) else (r : Int)).natAbs < 2 ^ 53 := by cases ng <;> simp <;> omega
        exact Nat.le_trans (blen_le_of_lt h) (by omega)
      refine (refMake_any ng _ 2 2 _ (-1074) V hbg hbl (by omega) (by omega) HT.out).mono ?_
      rintro e w5 ⟨v, rfl, hr2, hw5⟩
      rw [HDY.out] at hr2
      have c1 := c1.below hw5
      obtain ⟨hB4, hB4'⟩ := bnext hB2 hB2' hw5
      obtain ⟨rb, rn, ro2, rk, rc, re, rfl⟩ := hr2.parts
      clear hbg hbl hsl hE hw5 hB2 hB r1 h1 h2
      have q0 := c1.c0
      have q1 := c1.c1
      have q2 := c1.c2
      have q3 := c1.c3
      have f0 := c1.f 0
      have f1 := c1.f 1
      have f2 := c1.f 2
      have f3 := c1.f 3
      have hres := dn_stored c1 hr2 w hB4 (Nat.le_refl _)
      have z3 := c1.stored rb rn ro2 rk rc re
      have z0 := z3.c0
      have z1 := z3.c1
      have z2 := z3.c2
      have z4 := z3.c3
      have HRES := Lib.hid hres; clear hres z3
      go_wp2
      refine bodyPost_ret (v := .agg #[.bool rb, .bool rn, .slice ro2 rk rc, .int .i64 re]) (by simp [results, Tryz.results109, go_sem, z0, z1, z2, z4]) rfl ⟨_, rfl, ?_, ?_⟩
      · exact HRES.out.1
      · show Below _ _ _; rw [HBe.out]; exact HRES.out.2
    · have hor := or_hidden hr'
      obtain ⟨S, hS⟩ : ∃ S : Nat, r + 4503599627370496 = S := ⟨_, rfl⟩
      rw [hS] at hor
      have HDY := Lib.hid (fdy_make (f := f) (S := S) (k := q - 1) (E := (q : Int) - 1075) hfin (by unfold sig; rw [if_neg (by rw [hfld]; exact c), hfr, hS]) (by unfold fsh; rw [hfld]) (by omega))
      rw [hng] at HDY
      have hS0 : (S : Int) < 9007199254740992 := by omega
      have hq0 : 0 < q := by omega
      have hq1 : q < 2048 := by omega
      clear hfld hfr hm hq hr hng hf hfin hq' hr' hS c
      go_enter Tryz.func109, Tryz.ntmps109
      go_upto_region 1 with fail
      obtain ⟨W, hW, hB, r1, hz⟩ := dbox_new w false false none 0 0 0
      rw [← hW]
      clear hW
      have HT := Lib.hid (HT.out.below hB)
      generalize hBe : w.heap.size = B at *
      have HBe := Lib.hid hBe
      clear hBe hz
      go_wp2_with fail
      refine (CF.out _).mono ?_
      rintro e w1 ⟨rfl, rfl⟩
      go_upto_region 4 with fail
      go_upto_region 5 with fail
      go_upto_region 6 with fail
      go_upto_region 7 with fail
      go_upto_region 8 with fail
      go_wp2_with fail
      refine (CM.out _).mono ?_
      rintro e w1 ⟨rfl, rfl⟩
      go_wp2_with fail
      obtain ⟨V, hV, hE, hsl, hz⟩ := slice_two W ((S : Int) % 4294967296) ((S : Int) / 4294967296) (by omega) (by omega)
      rw [← hV]
      clear hV
      have hbg : Bg V ng (some ⟨W.heap.size, 0, none⟩) 2 2 (if ng then -(S : Int) else (S : Int)) := ⟨⟨_, hsl, sgd_two.symm⟩, by omega⟩
      have HT := Lib.hid (HT.out.below hE)
      have c1 := r1.below hE
      obtain ⟨hB2, hB2'⟩ := bnext hB (Nat.le_of_lt r1.lt) hE
      have hbl : blen (if ng then -(S : Int) else (S : Int)).natAbs ≤ 1000000 := by
        have h : (if ng then -(S : Int) else (S : Int)).natAbs < 2 ^ 53 := by cases ng <;> simp <;> omega
        exact Nat.le_trans (blen_le_of_lt h) (by omega)
      refine (refMake_any ng _ 2 2 _ ((q : Int) - 1075) V hbg hbl (by omega) (by omega) HT.out).mono ?_
      rintro e w5 ⟨v, rfl, hr2, hw5⟩
      rw [HDY.out] at hr2
      have c1 := c1.below hw5
      obtain ⟨hB4, hB4'⟩ := bnext hB2 hB2' hw5
      obtain ⟨rb, rn, ro2, rk, rc, re, rfl⟩ := hr2.parts
      clear hbg hbl hsl hE hw5 hB2 hB r1 h1 h2
      have q0 := c1.c0
      have q1 := c1.c1
      have q2 := c1.c2
      have q3 := c1.c3
      have f0 := c1.f 0
      have f1 := c1.f 1
      have f2 := c1.f 2
      have f3 := c1.f 3
      have hres := dn_stored c1 hr2 w hB4 (Nat.le_refl _)
      have z3 := c1.stored rb rn ro2 rk rc re
      have z0 := z3.c0
      have z1 := z3.c1
      have z2 := z3.c2
      have z4 := z3.c3
      have HRES := Lib.hid hres; clear hres z3
      go_wp2
      refine bodyPost_ret (v := .agg #[.bool rb, .bool rn, .slice ro2 rk rc, .int .i64 re]) (by simp [results, Tryz.results109, go_sem, z0, z1, z2, z4]) rfl ⟨_, rfl, ?_, ?_⟩
      · exact HRES.out.1
      · show Below _ _ _; rw [HBe.out]; exact HRES.out.2
end Go.Proofs.YtecaaklbhhjcjaaGreatDoor

namespace Go.Proofs.YtecaaklbhhjcjaaGreatDoor
open Go Go.RowKit

theorem Own.only {w w' : World} {B g : Nat} {v : Value} {L : List Int} (h : Own w B v L) (ho : Only g w w') (hg : g < B) : Own w' B v L := by
  obtain ⟨h1, h2⟩ := h
  refine ⟨h1, ?_⟩
  rcases h2 with ⟨hv, h0⟩ | ⟨k, cap, cur, hv, hb, hk, r⟩
  · exact Or.inl ⟨hv, h0⟩
  · exact Or.inr ⟨k, cap, cur, hv, hb, by rw [ho.block k (by omega)]; exact hk, r⟩
theorem Own.drew {w : World} {B : Nat} {v : Value} {L : List Int} (h : Own w B v L) : Own w.drew B v L := h
end Go.Proofs.YtecaaklbhhjcjaaGreatDoor

namespace Go.Proofs.YtecaaklbhhjcjaaGreatDoor
open Go.RowKit

/-- a raw integer at hand: its value, its sign, its limbs -/
structure REnt where
  v : Value
  nb : Bool
  zs : List Int
def REnt.Ok (w : World) (p : REnt) : Prop := ∃ ao n ca, p.v = .agg #[.bool p.nb, .slice ao n ca] ∧ Sl w ao n ca p.zs
theorem REnt.Ok.ext {w w' : World} {p : REnt} (h : p.Ok w) (he : Ext w w') : p.Ok w' := by
  obtain ⟨ao, n, ca, h1, h2⟩ := h
  exact ⟨ao, n, ca, h1, h2.below he⟩
theorem REnt.Ok.only_box {w w' : World} {p : REnt} {g : Nat} {nb : Bool} {ao : Option Addr} {n ca : Nat} (h : p.Ok w) (hb : Box w g nb ao n ca) (ho : Only g w w') : p.Ok w' := by
  obtain ⟨ao, n, ca, h1, h2⟩ := h
  exact ⟨ao, n, ca, h1, h2.only_box hb ho⟩
theorem REnt.Ok.parts {w : World} {v : Value} {nb : Bool} {zs : List Int} (h : REnt.Ok w ⟨v, nb, zs⟩) : ∃ ao n ca, v = .agg #[.bool nb, .slice ao n ca] ∧ Sl w ao n ca zs := h
structure RSt (W w : World) (L : List REnt) : Prop where
  ext : Ext W w
  bag : ∀ p ∈ L, p.Ok w
theorem RSt.step {W w w' : World} {L : List REnt} (h : RSt W w L) (he : Ext w w') : RSt W w' L := ⟨h.ext.trans he, fun p hp => (h.bag p hp).ext he⟩
theorem RSt.drew {W w : World} {L : List REnt} (h : RSt W w L) : RSt W w.drew L := h.step (Below.refl _ _).drew
theorem RSt.alloc {W w : World} {L : List REnt} (h : RSt W w L) (o : Obj) : RSt W (w.alloc o) L := h.step ((Below.refl _ w).alloc (Nat.le_refl _) o)
theorem RSt.stored {W w : World} {L : List REnt} {g : Nat} {nb : Bool} {ao : Option Addr} {n ca : Nat} (h : RSt W w L) (hb : Box w g nb ao n ca) (hg : W.heap.size ≤ g) (mb : Bool) (bo : Option Addr) (m cb : Nat) :
    RSt W ((w.setCell ⟨g, 0, none⟩ (.bool mb)).setCell ⟨g, 1, none⟩ (.slice bo m cb)) L :=
  ⟨Below.trans h.ext ((only_set2 w g _ _).below hg), fun p hp => (h.bag p hp).only_box hb (only_set2 w g _ _)⟩

theorem ext_allocB (w : World) (o : Obj) : Ext w (w.alloc o) := (Below.refl _ _).alloc (Nat.le_refl _) o
theorem ext_drewB (w : World) : Ext w w.drew := (Below.refl _ _).drew
theorem bbox_new1v (w : World) (o : Obj) (nb : Bool) (ao : Option Addr) (n ca : Nat) : Box ((w.alloc o).alloc (.cells #[.bool nb, .slice ao n ca] 24)) (w.heap.size + 1) nb ao n ca := by
  have := Box.new (w.alloc o) nb ao n ca
  simpa using this
end Go.Proofs.YtecaaklbhhjcjaaGreatDoor

namespace Go.Proofs.YtecaaklbhhjcjaaGreatDoor
open Go.RowKit

theorem num_take_next (zs : List Int) (k : Nat) : num (zs.take (k + 1)) = num (zs.take k) + 4294967296 ^ k * zs.getD k 0 := by
  by_cases h : k < zs.length
  · exact num_take_succ zs k h
  · rw [List.take_of_length_le (by omega), List.take_of_length_le (by omega), List.getD, List.getElem?_eq_none (by omega)]
    simp

/-- k limbs of a sum are made, c goes over -/
def SumAt (xs ys : List Int) (k : Nat) (L : List Int) (c : Int) : Prop := L.length = k ∧ Wf L ∧ 0 ≤ c ∧ c ≤ 1 ∧ num L + 4294967296 ^ k * c = num (xs.take k) + num (ys.take k)

theorem SumAt.start (xs ys : List Int) : SumAt xs ys 0 [] 0 := ⟨rfl, Wf.nil, by omega, by omega, by simp [num]⟩

theorem SumAt.step {xs ys L : List Int} {k : Nat} {c t : Int} (h : SumAt xs ys k L c) (hx : Wf xs) (hy : Wf ys) (ht : t = c + xs.getD k 0 + ys.getD k 0) : SumAt xs ys (k + 1) (L ++ [t % 4294967296]) (t / 4294967296) := by
  obtain ⟨h1, h2, h3, h4, h5⟩ := h
  have x1 := hx.getD k
  have y1 := hy.getD k
  refine ⟨by simp [h1], h2.append (Wf.cons ⟨by omega, by omega⟩ Wf.nil), by omega, by omega, ?_⟩
  rw [num_append, h1, num_take_next xs k, num_take_next ys k, Int.pow_succ]
  simp only [num]
  have e : t % 4294967296 + 4294967296 * (t / 4294967296) = t := by omega
  have e2 : (4294967296 : Int) ^ k * (t % 4294967296) + 4294967296 ^ k * 4294967296 * (t / 4294967296) = 4294967296 ^ k * t := by
    rw [Int.mul_assoc, ← Int.mul_add, e]
  have e3 : (4294967296 : Int) ^ k * t = 4294967296 ^ k * c + 4294967296 ^ k * xs.getD k 0 + 4294967296 ^ k * ys.getD k 0 := by rw [ht, Int.mul_add, Int.mul_add]
  simp only [Int.mul_zero, Int.add_zero]
  omega

theorem SumAt.done {xs ys L : List Int} {k : Nat} {c : Int} (h : SumAt xs ys k L c) (hx : xs.length ≤ k) (hy : ys.length ≤ k) : Wf (L ++ [c]) ∧ (L ++ [c]).length = k + 1 ∧ num (L ++ [c]) = num xs + num ys := by
  obtain ⟨h1, h2, h3, h4, h5⟩ := h
  refine ⟨h2.append (Wf.cons ⟨by omega, by omega⟩ Wf.nil), by simp [h1], ?_⟩
  rw [List.take_of_length_le hx, List.take_of_length_le hy] at h5
  rw [num_append, h1]
  simp only [num, Int.mul_zero, Int.add_zero]
  exact h5

theorem getD_past {zs : List Int} {k : Nat} (h : ¬ k < zs.length) : zs.getD k 0 = 0 := by
  rw [List.getD, List.getElem?_eq_none (by omega)]; rfl

/-- k limbs of a difference are made, c is borrowed -/
def DiffAt (xs ys : List Int) (k : Nat) (L : List Int) (c : Int) : Prop := L.length = k ∧ Wf L ∧ 0 ≤ c ∧ c ≤ 1 ∧ num L = num (xs.take k) - num (ys.take k) + 4294967296 ^ k * c

theorem DiffAt.start (xs ys : List Int) : DiffAt xs ys 0 [] 0 := ⟨rfl, Wf.nil, by omega, by omega, by simp [num]⟩

theorem DiffAt.step {xs ys L : List Int} {k : Nat} {c z c' : Int} (h : DiffAt xs ys k L c) (hz : 0 ≤ z ∧ z < 4294967296) (hc : 0 ≤ c' ∧ c' ≤ 1) (ht : z = xs.getD k 0 - ys.getD k 0 - c + 4294967296 * c') : DiffAt xs ys (k + 1) (L ++ [z]) c' := by
  obtain ⟨h1, h2, h3, h4, h5⟩ := h
  refine ⟨by simp [h1], h2.append (Wf.cons hz Wf.nil), hc.1, hc.2, ?_⟩
  rw [num_append, h1, num_take_next xs k, num_take_next ys k, Int.pow_succ]
  simp only [num, Int.mul_zero, Int.add_zero]
  have e3 : (4294967296 : Int) ^ k * z = 4294967296 ^ k * xs.getD k 0 - 4294967296 ^ k * ys.getD k 0 - 4294967296 ^ k * c + 4294967296 ^ k * 4294967296 * c' := by
    rw [ht, Int.mul_add, Int.mul_sub, Int.mul_sub, Int.mul_assoc]
  omega

theorem DiffAt.done {xs ys L : List Int} {k : Nat} {c : Int} (h : DiffAt xs ys k L c) (hx : xs.length ≤ k) (hy : ys.length ≤ k) (hle : num ys ≤ num xs) : num L = num xs - num ys := by
  obtain ⟨h1, h2, h3, h4, h5⟩ := h
  rw [List.take_of_length_le hx, List.take_of_length_le hy] at h5
  have h6 := num_lt h2
  rw [h1] at h6
  have h7 : c = 0 := by
    rcases (show c = 0 ∨ c = 1 by omega) with h | h
    · exact h
    · subst h; omega
  subst h7
  omega

/-- one limb less the borrow less another one -/
theorem sub_word' (x y c : Int) (x0 : 0 ≤ x) (x1 : x < 4294967296) (y0 : 0 ≤ y) (y1 : y < 4294967296) (c0 : 0 ≤ c) (c1 : c ≤ 1) :
    (0 ≤ IntKind.u64.wrap (IntKind.u64.wrap (x - c) - y) / 9223372036854775808 ∧ IntKind.u64.wrap (IntKind.u64.wrap (x - c) - y) / 9223372036854775808 ≤ 1) ∧
    IntKind.u64.wrap (IntKind.u64.wrap (x - c) - y) % 4294967296 = x - y - c + 4294967296 * (IntKind.u64.wrap (IntKind.u64.wrap (x - c) - y) / 9223372036854775808) := by
  rw [IntKind.wrap_u64, IntKind.wrap_u64]
  omega

theorem sub_word0 (x c : Int) (x0 : 0 ≤ x) (x1 : x < 4294967296) (c0 : 0 ≤ c) (c1 : c ≤ 1) :
    (0 ≤ IntKind.u64.wrap (x - c) / 9223372036854775808 ∧ IntKind.u64.wrap (x - c) / 9223372036854775808 ≤ 1) ∧
    IntKind.u64.wrap (x - c) % 4294967296 = x - 0 - c + 4294967296 * (IntKind.u64.wrap (x - c) / 9223372036854775808) := by
  rw [IntKind.wrap_u64]
  omega

end Go.Proofs.YtecaaklbhhjcjaaGreatDoor

namespace Go.Proofs.YtecaaklbhhjcjaaGreatDoor
open Go.RowKit

set_option maxRecDepth 100000 in
set_option maxHeartbeats 1000000 in
theorem refCmpMag_any (a b : Nat) (ao bo : Option Addr) (n m ca cb : Nat) (w : World) (ha : Sl w ao n ca (limbs a)) (hb : Sl w bo m cb (limbs b)) :
    Calls Tryz.prog 139 #[.slice ao n ca, .slice bo m cb] w fun e w' => e = .returned (.int .i64 (sgn3 a b)) ∧ ∃ q, w' = w.drewN q := by
  have hna := ha.big
  have hnb := hb.big
  by_cases hnm : n = m
  · subst hnm
    have h0 : ((n : Int) != n) = false := by simp
    go_enter Tryz.func139, Tryz.ntmps139
    go_wp2
    go_loopw [5] (fun i wr => ∃ k q : Nat, k ≤ n ∧ i = .int .i64 ((k : Int) - 1) ∧ (limbs a).drop k = (limbs b).drop k ∧ wr = w.drewN q) (fun i _ => (intOf i + 1).toNat)
    case atStart => exact ⟨n, 0, Nat.le_refl _, rfl, by rw [List.drop_eq_nil_of_le (by rw [ha.len]; exact Nat.le_refl _), List.drop_eq_nil_of_le (by rw [hb.len]; exact Nat.le_refl _)], rfl⟩
    case round =>
      obtain ⟨k, q, hk, rfl, hd, hw⟩ := hrel
      have HD := Lib.hid hd; clear hd
      subst hw
      by_cases hlt : 0 < k
      · obtain ⟨j, rfl⟩ : ∃ j, k = j + 1 := ⟨k - 1, by omega⟩
        obtain ⟨ba, oa, rfl, hca⟩ := ha.cells (by rw [ha.len]; omega)
        obtain ⟨bb, ob, rfl, hcb⟩ := hb.cells (by rw [hb.len]; omega)
        have c1 := hca j (by rw [ha.len]; omega)
        have c2 := hcb j (by rw [hb.len]; omega)
        clear hca hcb
        obtain ⟨x, hx⟩ : ∃ x, (limbs a).getD j 0 = x := ⟨_, rfl⟩
        obtain ⟨y, hy⟩ : ∃ y, (limbs b).getD j 0 = y := ⟨_, rfl⟩
        rw [hx] at c1
        rw [hy] at c2
        have HX := Lib.hid hx; clear hx
        have HY := Lib.hid hy; clear hy
        have ej : ((j + 1 : Nat) : Int) - 1 = (j : Int) := by omega
        rw [ej]
        clear ej
        by_cases hxy : x = y
        · subst hxy
          have hxx : (x != x) = false := by simp
          go_wp2
          go_quiet (fail)
          go_wp2
          go_roundw
          case rel => exact ⟨j, q + nq, by omega, by go_num, drop_eq_cons (by rw [ha.len]; omega) (by rw [hb.len]; omega) HD.out (by rw [HX.out, HY.out]), by simp [World.drewN]⟩
          case measure => simp [intOf] <;> omega
        · have hxx : (x != y) = true := by simp [hxy]
          have hs := sgn3_limb (a := a) (b := b) (by rw [ha.len, hb.len]) j (by rw [ha.len]; omega) HD.out (by rw [HX.out, HY.out]; exact hxy)
          rw [HX.out, HY.out] at hs
          have HS := Lib.hid hs; clear hs
          by_cases hlt2 : x < y
          · have hs2 : sgn3 x y = -1 := by simp [sgn3, hlt2]
            have HS2 := Lib.hid hs2; clear hs2
            clear hxy
            go_wp2
            go_quiet (fail)
            go_wp2
            go_quiet (fail)
            go_wp2
            go_ret
            exact ⟨by rw [← HS.out, HS2.out]; rfl, _, by rw [World.drewN_drewN, World.drewN_drewN]⟩
          · have hs2 : sgn3 x y = 1 := by unfold sgn3; rw [if_neg hlt2, if_pos (by omega)]
            have HS2 := Lib.hid hs2; clear hs2
            clear hxy
            go_wp2
            go_quiet (fail)
            go_wp2
            go_quiet (fail)
            go_wp2
            go_ret
            exact ⟨by rw [← HS.out, HS2.out]; rfl, _, by rw [World.drewN_drewN, World.drewN_drewN]⟩
      · obtain rfl : k = 0 := by omega
        clear ha hb
        go_wp2
        go_ret
        refine ⟨?_, q, rfl⟩
        have hd := HD.out
        rw [List.drop_zero, List.drop_zero] at hd
        obtain rfl := limbs_inj hd
        simp [sgn3]
  · have h0 : ((n : Int) != m) = true := by simp; omega
    have hs := sgn3_lens (a := a) (b := b) (by rw [ha.len, hb.len]; exact hnm)
    rw [ha.len, hb.len] at hs
    have HS := Lib.hid hs; clear hs
    by_cases hlt : n < m
    · have hs2 : sgn3 (n : Int) m = -1 := by unfold sgn3; rw [if_pos (by omega)]
      have HS2 := Lib.hid hs2; clear hs2
      go_enter Tryz.func139, Tryz.ntmps139
      go_wp2
      go_ret
      exact ⟨by rw [← HS.out, HS2.out]; rfl, 0, rfl⟩
    · have hs2 : sgn3 (n : Int) m = 1 := by unfold sgn3; rw [if_neg (by omega), if_pos (by omega)]
      have HS2 := Lib.hid hs2; clear hs2
      go_enter Tryz.func139, Tryz.ntmps139
      go_wp2
      go_ret
      exact ⟨by rw [← HS.out, HS2.out]; rfl, 0, rfl⟩
end Go.Proofs.YtecaaklbhhjcjaaGreatDoor
