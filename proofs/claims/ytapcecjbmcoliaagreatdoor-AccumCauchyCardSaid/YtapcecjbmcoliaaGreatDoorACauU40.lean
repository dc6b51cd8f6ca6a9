import Derived.Test.YtapcecjbmcoliaaGreatDoorACauU36
import Derived.Test.YtapcecjbmcoliaaGreatDoorACauU32
import Derived.Test.YtapcecjbmcoliaaGreatDoorACauU27
import Derived.Test.YtapcecjbmcoliaaGreatDoorACauU39
import Derived.Deep.RegionHeld3
import Derived.Test.YtapcecjbmcoliaaGreatDoorACauU26
import Derived.Test.YtapcecjbmcoliaaGreatDoorACauU20
import Derived.Test.YtapcecjbmcoliaaGreatDoorACauU18
import Derived.Test.YtapcecjbmcoliaaGreatDoorACauU5
import Derived.Deep.RegionLaw
import Derived.Deep.CutRange
import Derived.Test.YtapcecjbmcoliaaGreatDoorACauU4
import Derived.Test.YtapcecjbmcoliaaGreatDoorACauU3
import Derived.Test.YtapcecjbmcoliaaGreatDoorACauU2
import Derived.Laws.Bits64
import Derived.Laws.Bits64b
import Derived.Deep.QuietTactic
import Derived.BigQuiet
namespace Go.Proofs.YtapcecjbmcoliaaGreatDoor
theorem sig_ne {f : Nat} (h : zeroB f = false) : sig f ≠ 0 := fun h1 => of_decide_eq_false h ((sig_zero f).1 h1)
theorem sgn_parts (s : Bool) {A : Nat} (h : A ≠ 0) : decide ((if s then -(A : Int) else (A : Int)) < 0) = s ∧ (if s then -(A : Int) else (A : Int)).natAbs = A ∧ (if s then -(A : Int) else (A : Int)) ≠ 0 := by
  cases s
  · simp; omega
  · simp; omega
end Go.Proofs.YtapcecjbmcoliaaGreatDoor

namespace Go.Proofs.YtapcecjbmcoliaaGreatDoor
open Go.RowKit

theorem kind_fields {f q r : Nat} (hq : f / 4503599627370496 % 2048 = q) (hr : f % 4503599627370496 = r) : fmag f = q * 4503599627370496 + r ∧ q < 2048 ∧ r < 4503599627370496 := by
  unfold fmag
  omega
theorem and_fields (f : Nat) (hf : f < 18446744073709551616) : bits BinOp.and IntKind.u64 ((f : Int) / 4503599627370496) 2047 = ((f / 4503599627370496 % 2048 : Nat) : Int) ∧ bits BinOp.and IntKind.u64 (f : Int) 4503599627370495 = ((f % 4503599627370496 : Nat) : Int) := by
  have h1 : (f : Int) / 4503599627370496 = ((f / 4503599627370496 : Nat) : Int) := (Int.natCast_ediv _ _).symm
  have h2 := bits_and_u64_nat (f / 4503599627370496) 2047 (by omega) (by omega)
  rw [show (2047 : Nat) = 2 ^ 11 - 1 from rfl, Nat.and_two_pow_sub_one_eq_mod] at h2
  have h3 := bits_and_u64_nat f 4503599627370495 (by omega) (by omega)
  rw [show (4503599627370495 : Nat) = 2 ^ 52 - 1 from rfl, Nat.and_two_pow_sub_one_eq_mod] at h3
  rw [h1]
  exact ⟨h2, h3⟩

set_option maxRecDepth 100000 in
set_option maxHeartbeats 1000000 in
theorem refKind_any (f : Nat) (hf : f < 18446744073709551616) (w : World) :
    Calls Tryz.prog 63 #[.int .u64 (f : Int)] w fun e w' => e = .returned (.int .i64 (fkind f)) ∧ w = w' := by
  obtain ⟨h1, h2⟩ := and_fields f hf
  obtain ⟨q, hq⟩ : ∃ q : Nat, f / 4503599627370496 % 2048 = q := ⟨_, rfl⟩
  obtain ⟨r, hr⟩ : ∃ r : Nat, f % 4503599627370496 = r := ⟨_, rfl⟩
  obtain ⟨hm, hq', hr'⟩ := kind_fields hq hr
  rw [hq] at h1
  rw [hr] at h2
  have hk := fkind_cases f
  rw [hm] at hk
  generalize fkind f = k at *
  clear hq hr hm hf
  by_cases c1 : q = 2047
  · have b1 : ((q : Int) == 2047) = true := by rw [beq_iff_eq]; omega
    by_cases c2 : r = 0
    · obtain rfl : k = 2 := by omega
      have b2 : ((r : Int) != 0) = false := by simp; omega
      clear hk c1 c2 hq' hr'
      go_enter Tryz.func63, Tryz.ntmps63
      go_wp2
      go_ret
      exact ⟨rfl, rfl⟩
    · obtain rfl : k = 3 := by omega
      have b2 : ((r : Int) != 0) = true := by simp; omega
      clear hk c1 c2 hq' hr'
      go_enter Tryz.func63, Tryz.ntmps63
      go_wp2
      go_ret
      exact ⟨rfl, rfl⟩
  · have b1 : ((q : Int) == 2047) = false := by rw [beq_eq_false_iff_ne]; omega
    by_cases c2 : q = 0
    · have b3 : ((q : Int) == 0) = true := by rw [beq_iff_eq]; omega
      by_cases c3 : r = 0
      · obtain rfl : k = 0 := by omega
        have b4 : ((r : Int) == 0) = true := by rw [beq_iff_eq]; omega
        clear hk c1 c2 c3 hq' hr'
        go_enter Tryz.func63, Tryz.ntmps63
        go_wp2
        go_ret
        exact ⟨rfl, rfl⟩
      · obtain rfl : k = 1 := by omega
        have b4 : ((r : Int) == 0) = false := by rw [beq_eq_false_iff_ne]; omega
        clear hk c1 c2 c3 hq' hr'
        go_enter Tryz.func63, Tryz.ntmps63
        go_wp2
        go_ret
        exact ⟨rfl, rfl⟩
    · obtain rfl : k = 1 := by omega
      have b3 : ((q : Int) == 0) = false := by rw [beq_eq_false_iff_ne]; omega
      clear hk c1 c2 hq' hr'
      go_enter Tryz.func63, Tryz.ntmps63
      go_wp2
      go_ret
      exact ⟨rfl, rfl⟩

theorem kind_nan (f : Nat) : (fkind f == 3) = nanB f := by
  have h := fkind_cases f
  unfold nanB
  generalize fkind f = k at *
  generalize fmag f = m at *
  by_cases h1 : 9218868437227405312 < m
  · rw [decide_eq_true h1, beq_iff_eq]; omega
  · rw [decide_eq_false h1, beq_eq_false_iff_ne]; omega

set_option maxRecDepth 100000 in
theorem refNan_any (f : Nat) (hf : f < 18446744073709551616) (b : Bool) (hb : nanB f = b) (w : World) :
    Calls Tryz.prog 34 #[.int .u64 (f : Int)] w fun e w' => e = .returned (.bool b) ∧ w = w' := by
  have hk := kind_nan f
  rw [hb] at hk
  have HK := Lib.hid hk
  clear hk hb
  go_enter Tryz.func34, Tryz.ntmps34
  go_wp2_with fail
  refine (refKind_any f hf _).mono ?_
  rintro e w' ⟨rfl, rfl⟩
  go_wp2
  go_ret
  exact ⟨ret_bool HK.out, rfl⟩

end Go.Proofs.YtapcecjbmcoliaaGreatDoor

namespace Go.Proofs.YtapcecjbmcoliaaGreatDoor
open Go.RowKit

theorem box_two (w : World) (lo hi : Int) (h0 : 0 ≤ lo ∧ lo < 4294967296) (h1 : 0 ≤ hi ∧ hi < 4294967296) :
    ∃ W, W = (w.alloc (.cells #[.bool false, .slice none 0 0] 27)).alloc (.cells #[.int .u32 lo, .int .u32 hi] 47) ∧ Below w.heap.size w W ∧ Box W w.heap.size false none 0 0 ∧ Sl W (some ⟨w.heap.size + 1, 0, none⟩) 2 2 [lo, hi] ∧ w.heap.size + 2 ≤ W.heap.size := by
  refine ⟨_, rfl, ((Below.refl _ w).alloc (Nat.le_refl _) _).alloc (by simp) _, ?_, ?_, by simp⟩
  · exact (Box.new w false none 0 0).below ((Below.refl _ _).alloc (Nat.le_refl _) _)
  · have hb : Blk ((w.alloc (.cells #[.bool false, .slice none 0 0] 27)).alloc (.cells #[.int .u32 lo, .int .u32 hi] 47)) (w.heap.size + 1) [lo, hi] := by
      have := heap_alloc_new (w.alloc (.cells #[.bool false, .slice none 0 0] 27)) (.cells #[.int .u32 lo, .int .u32 hi] 47)
      simpa [Blk] using this
    exact hb.sl (Wf.cons h0 (Wf.cons h1 Wf.nil)) rfl (by omega) (Nat.le_refl _)

set_option maxRecDepth 100000 in
set_option maxHeartbeats 1000000 in
theorem refFromInt_any (x : Int) (w : World) (h0 : -9223372036854775808 ≤ x) (h1 : x ≤ 9223372036854775807) :
    Calls Tryz.prog 62 #[.int .i64 x] w fun e w' => ∃ nr ro k cr, e = .returned (.agg #[.bool nr, .slice ro k cr]) ∧ Bn w' nr ro k cr x ∧ Ext w w' := by
  by_cases hx : x < 0
  · have hv0 : 0 ≤ -(x + 1) + 1 := by omega
    have hv1 : -(x + 1) + 1 ≤ 9223372036854775808 := by omega
    go_enter Tryz.func62, Tryz.ntmps62
    go_wp2_with fail
    obtain ⟨W, hW, hB, hbx, hsl, hz⟩ := box_two w ((-(x + 1) + 1) % 4294967296) ((-(x + 1) + 1) / 4294967296) (by omega) (by omega)
    rw [← hW]
    clear hW
    generalize hBe : w.heap.size = B at *
    have HBe := Lib.hid hBe; clear hBe
    have hnum : sgd true [(-(x + 1) + 1) % 4294967296, (-(x + 1) + 1) / 4294967296] = x := by
      unfold sgd
      rw [num_two]
      simp <;> omega
    refine (make1_any true _ _ _ _ W hsl).mono ?_
    rintro e w1 ⟨nr, ro, k, rc, rfl, hs1, hk, hw1⟩
    rw [hnum] at hs1
    have b1 := hbx.below hw1
    obtain ⟨h1, z1⟩ := bnext hB (by omega) hw1
    have q0 := b1.c0
    have q1 := b1.c1
    have q2 := b1.f 0
    have q3 := b1.f 1
    have hst := b1.stored nr ro k rc
    have u0 := hst.c0
    have u1 := hst.c1
    have HRES := Lib.hid (show Bn ((w1.setCell ⟨B, 0, none⟩ (.bool nr)).setCell ⟨B, 1, none⟩ (.slice ro k rc)) nr ro k rc x from ⟨hs1.neg, hs1.sl.only_box b1 (only_set2 _ _ _ _)⟩)
    have HBL := Lib.hid (h1.trans ((only_set2 w1 B (.bool nr) (.slice ro k rc)).below (Nat.le_refl B)))
    clear hnum hs1 h1 hw1 hB hbx hsl hst
    go_wp2
    refine bodyPost_ret (v := .agg #[.bool nr, .slice ro k rc]) (by simp [results, Tryz.results62, go_sem, u0, u1]) rfl ⟨_, ro, k, rc, rfl, HRES.out, ?_⟩
    rw [Ext, HBe.out]; exact HBL.out
  · have hv0 : 0 ≤ x := by omega
    have hv1 : x ≤ 9223372036854775808 := by omega
    go_enter Tryz.func62, Tryz.ntmps62
    go_wp2_with fail
    obtain ⟨W, hW, hB, hbx, hsl, hz⟩ := box_two w ((x) % 4294967296) ((x) / 4294967296) (by omega) (by omega)
    rw [← hW]
    clear hW
    generalize hBe : w.heap.size = B at *
    have HBe := Lib.hid hBe; clear hBe
    have hnum : sgd false [(x) % 4294967296, (x) / 4294967296] = x := by
      unfold sgd
      rw [num_two]
      simp <;> omega
    refine (make1_any false _ _ _ _ W hsl).mono ?_
    rintro e w1 ⟨nr, ro, k, rc, rfl, hs1, hk, hw1⟩
    rw [hnum] at hs1
    have b1 := hbx.below hw1
    obtain ⟨h1, z1⟩ := bnext hB (by omega) hw1
    have q0 := b1.c0
    have q1 := b1.c1
    have q2 := b1.f 0
    have q3 := b1.f 1
    have hst := b1.stored nr ro k rc
    have u0 := hst.c0
    have u1 := hst.c1
    have HRES := Lib.hid (show Bn ((w1.setCell ⟨B, 0, none⟩ (.bool nr)).setCell ⟨B, 1, none⟩ (.slice ro k rc)) nr ro k rc x from ⟨hs1.neg, hs1.sl.only_box b1 (only_set2 _ _ _ _)⟩)
    have HBL := Lib.hid (h1.trans ((only_set2 w1 B (.bool nr) (.slice ro k rc)).below (Nat.le_refl B)))
    clear hnum hs1 h1 hw1 hB hbx hsl hst
    go_wp2
    refine bodyPost_ret (v := .agg #[.bool nr, .slice ro k rc]) (by simp [results, Tryz.results62, go_sem, u0, u1]) rfl ⟨_, ro, k, rc, rfl, HRES.out, ?_⟩
    rw [Ext, HBe.out]; exact HBL.out
end Go.Proofs.YtapcecjbmcoliaaGreatDoor

namespace Go.Proofs.YtapcecjbmcoliaaGreatDoor
open Go Go.RowKit

theorem Own.only {w w' : World} {B g : Nat} {v : Value} {L : List Int} (h : Own w B v L) (ho : Only g w w') (hg : g < B) : Own w' B v L := by
  obtain ⟨h1, h2⟩ := h
  refine ⟨h1, ?_⟩
  rcases h2 with ⟨hv, h0⟩ | ⟨k, cap, cur, hv, hb, hk, r⟩
  · exact Or.inl ⟨hv, h0⟩
  · exact Or.inr ⟨k, cap, cur, hv, hb, by rw [ho.block k (by omega)]; exact hk, r⟩
theorem Own.drew {w : World} {B : Nat} {v : Value} {L : List Int} (h : Own w B v L) : Own w.drew B v L := h
theorem Box.stored1 {w : World} {g : Nat} {nb : Bool} {ao : Option Addr} {n cap : Nat} (h : Box w g nb ao n cap) (bo : Option Addr) (m cb : Nat) :
    Box (w.setCell ⟨g, 1, none⟩ (.slice bo m cb)) g nb bo m cb := by
  unfold Box at h ⊢
  simp [World.setCell, Array.getElem?_modify, h]

end Go.Proofs.YtapcecjbmcoliaaGreatDoor

namespace Go.Proofs.YtapcecjbmcoliaaGreatDoor
open Go.RowKit

/-- a raw integer at hand: its value, its sign, its limbs -/
structure REnt where
  v : Value
  nb : Bool
  zs : List Int
def REnt.Ok (w : World) (p : REnt) : Prop := ∃ ao n ca, p.v = .agg #[.bool p.nb, .slice ao n ca] ∧ Sl w ao n ca p.zs
theorem REnt.Ok.ext {w w' : World} {p : REnt} (h : p.Ok w) (he : Ext w w') : p.Ok w' := by
  obtain ⟨ao, n, ca, h1, h2⟩ := h
  exact ⟨ao, n, ca, h1, h2.below he⟩
theorem REnt.Ok.only_box {w w' : World} {p : REnt} {g : Nat} {nb : Bool} {ao : Option Addr} {n ca : Nat} (h : p.Ok w) (hb : Box w g nb ao n ca) (ho : Only g w w') : p.Ok w' := by
  obtain ⟨ao, n, ca, h1, h2⟩ := h
  exact ⟨ao, n, ca, h1, h2.only_box hb ho⟩
theorem REnt.Ok.parts {w : World} {v : Value} {nb : Bool} {zs : List Int} (h : REnt.Ok w ⟨v, nb, zs⟩) : ∃ ao n ca, v = .agg #[.bool nb, .slice ao n ca] ∧ Sl w ao n ca zs := h
structure RSt (W w : World) (L : List REnt) : Prop where
  ext : Ext W w
  bag : ∀ p ∈ L, p.Ok w
theorem RSt.step {W w w' : World} {L : List REnt} (h : RSt W w L) (he : Ext w w') : RSt W w' L := ⟨h.ext.trans he, fun p hp => (h.bag p hp).ext he⟩
theorem RSt.drew {W w : World} {L : List REnt} (h : RSt W w L) : RSt W w.drew L := h.step (Below.refl _ _).drew
theorem RSt.alloc {W w : World} {L : List REnt} (h : RSt W w L) (o : Obj) : RSt W (w.alloc o) L := h.step ((Below.refl _ w).alloc (Nat.le_refl _) o)
theorem RSt.stored {W w : World} {L : List REnt} {g : Nat} {nb : Bool} {ao : Option Addr} {n ca : Nat} (h : RSt W w L) (hb : Box w g nb ao n ca) (hg : W.heap.size ≤ g) (mb : Bool) (bo : Option Addr) (m cb : Nat) :
    RSt W ((w.setCell ⟨g, 0, none⟩ (.bool mb)).setCell ⟨g, 1, none⟩ (.slice bo m cb)) L :=
  ⟨Below.trans h.ext ((only_set2 w g _ _).below hg), fun p hp => (h.bag p hp).only_box hb (only_set2 w g _ _)⟩

end Go.Proofs.YtapcecjbmcoliaaGreatDoor

namespace Go.Proofs.YtapcecjbmcoliaaGreatDoor
open Go.RowKit

theorem num_take_next (zs : List Int) (k : Nat) : num (zs.take (k + 1)) = num (zs.take k) + 4294967296 ^ k * zs.getD k 0 := by
  by_cases h : k < zs.length
  · exact num_take_succ zs k h
  · rw [List.take_of_length_le (by omega), List.take_of_length_le (by omega), List.getD, List.getElem?_eq_none (by omega)]
    simp

end Go.Proofs.YtapcecjbmcoliaaGreatDoor

namespace Go.Proofs.YtapcecjbmcoliaaGreatDoor
open Go.RowKit

/-- does it fit into an int? -/
def fitsI (x : Int) : Bool := decide (-9223372036854775808 ≤ x ∧ x ≤ 9223372036854775807)
def intOut (x : Int) : Int := if -9223372036854775808 ≤ x ∧ x ≤ 9223372036854775807 then x else 0

theorem fits_yes {x : Int} (h : -9223372036854775808 ≤ x ∧ x ≤ 9223372036854775807) : fitsI x = true ∧ intOut x = x := ⟨decide_eq_true h, if_pos h⟩
theorem fits_no {x : Int} (h : ¬ (-9223372036854775808 ≤ x ∧ x ≤ 9223372036854775807)) : fitsI x = false ∧ intOut x = 0 := ⟨decide_eq_false h, if_neg h⟩

end Go.Proofs.YtapcecjbmcoliaaGreatDoor
