import Derived.Test.YtagahbbjljndeaaGreatDoorMoNuU25
import Derived.Test.YtagahbbjljndeaaGreatDoorMoNuU23
import Derived.Deep.RegionWith
import Derived.Deep.CutRange
import Derived.Test.YtagahbbjljndeaaGreatDoorMoNuU20
import Derived.Test.YtagahbbjljndeaaGreatDoorMoNuU22
import Derived.Deep.RegionHeld3
import Derived.Test.YtagahbbjljndeaaGreatDoorMoNuU3
import Derived.Test.YtagahbbjljndeaaGreatDoorMoNuU4
import Derived.Test.YtagahbbjljndeaaGreatDoorMoNuU18
namespace Go.Proofs.YtagahbbjljndeaaGreatDoor
open Go.RowKit

theorem bn_abs {w : World} {nr : Bool} {ro : Option Addr} {k rc : Nat} {zs : List Int} {x : Int} {nb : Bool} (hx : x = sgd nb zs) (hz : Wf zs) (h : Bn w nr ro k rc (sgd false zs)) : Bn w nr ro k rc x.natAbs := by
  have e : (x.natAbs : Int) = sgd false zs := by
    rw [hx, sgd_natAbs hz, Int.toNat_of_nonneg (num_nonneg hz)]; rfl
  rw [e]; exact h

set_option maxRecDepth 100000 in
set_option maxHeartbeats 1000000 in
theorem refAbs_any (nb : Bool) (ao : Option Addr) (n cap : Nat) (x : Int) (w : World) (h : Bg w nb ao n cap x) :
    Calls Tryz.prog 70 #[.agg #[.bool nb, .slice ao n cap]] w fun e w' => ∃ nr ro k cr, e = .returned (.agg #[.bool nr, .slice ro k cr]) ∧ Bn w' nr ro k cr x.natAbs ∧ k ≤ n ∧ Below w.heap.size w w' := by
  obtain ⟨⟨zs, hs, hx⟩, hsm⟩ := h
  have HX := Lib.hid hx; clear hx
  go_enter Tryz.func70, Tryz.ntmps70
  go_wp2_with fail
  obtain ⟨W, hW, hB, hbx, hrx, hz⟩ := boxes1 w nb ao n cap
  rw [← hW]
  clear hW
  have hs0 := hs.below hB
  generalize hBe : w.heap.size = B at *
  have HBe := Lib.hid hBe; clear hBe
  have k0 := hbx.c0
  have k1 := hbx.c1
  go_wp2_with fail
  refine (make1_any false ao n cap zs W hs0).mono ?_
  rintro e w1 ⟨nr, ro, k, rc, rfl, hs1, hk, hw1⟩
  have b1 := hrx.below hw1
  obtain ⟨h1, z1⟩ := bnext hB (by omega) hw1
  have q0 := b1.c0
  have q1 := b1.c1
  have q2 := b1.f 0
  have q3 := b1.f 1
  have hst := b1.stored nr ro k rc
  have u0 := hst.c0
  have u1 := hst.c1
  have hres : Bn ((w1.setCell ⟨B + 1, 0, none⟩ (.bool nr)).setCell ⟨B + 1, 1, none⟩ (.slice ro k rc)) nr ro k rc x.natAbs := bn_abs HX.out hs.wf ⟨hs1.neg, hs1.sl.only_box b1 (only_set2 _ _ _ _)⟩
  have hbl := h1.trans ((only_set2 w1 (B + 1) (.bool nr) (.slice ro k rc)).below (Nat.le_succ B))
  have HRES := Lib.hid hres; clear hres
  go_wp2
  refine bodyPost_ret (v := .agg #[.bool nr, .slice ro k rc]) (by simp [results, Tryz.results70, go_sem, u0, u1]) rfl ⟨_, ro, k, rc, rfl, HRES.out, hk, ?_⟩
  rw [HBe.out]; exact hbl

/-- a magnitude shifted down -/
theorem refShr_num (a e : Nat) (ao : Option Addr) (n ca : Nat) (w : World) (ha : Sl w ao n ca (limbs a)) (hn : n ≤ 1000000000) (he : e ≤ 30000000000) :
    Calls Tryz.prog 82 #[.slice ao n ca, .int .i64 (e : Int)] w fun r w' => ∃ ro l cr L, r = .returned (.tuple #[.slice ro l cr, .bool (decide (a % 2 ^ e ≠ 0))]) ∧ Sl w' ro l cr L ∧ num L = ((a / 2 ^ e : Nat) : Int) ∧ l ≤ n ∧ Ext w w' := by
  have h := refShr_any (limbs a) (e / 32) (e % 32) ao n ca w ha (by omega) hn (by omega)
  have e1 : e / 32 * 32 + e % 32 = e := by omega
  rw [e1] at h
  refine h.mono fun r w' ⟨ro, l, cr, hr, hsl, hw⟩ => ⟨ro, l, cr, _, ?_, hsl, ?_, ?_, hw⟩
  · rw [hr, num_limbs]
    have e3 : ((a : Int) % 2 ^ e ≠ 0) ↔ (a % 2 ^ e ≠ 0) := by
      have : (a : Int) % 2 ^ e = ((a % 2 ^ e : Nat) : Int) := by rw [Int.natCast_emod, Int.natCast_pow]; rfl
      rw [this]; omega
    rw [decide_eq_decide.2 e3]
  · rw [num_shr (by omega)]
    by_cases hs : e / 32 ≤ n
    · rw [num_drop_div (Wf.limbs a) _ (by rw [ha.len]; exact hs), num_limbs]
      conv => rhs; rw [← e1, pow32, ← Nat.div_div_eq_div_mul, Int.natCast_ediv, Int.natCast_ediv, Int.natCast_pow, Int.natCast_pow]
      rfl
    · rw [List.drop_eq_nil_of_le (by rw [ha.len]; omega)]
      have h1 := (limbs_len_le a n).1 (by rw [ha.len]; exact Nat.le_refl _)
      have h2 : a < 2 ^ e := by
        have h3 : 4294967296 ^ n ≤ 2 ^ e := by
          rw [← e1, pow32]
          have := pow_le' (show n ≤ e / 32 by omega)
          exact Nat.le_trans this (Nat.le_mul_of_pos_right _ (Nat.pow_pos (by omega)))
        omega
      rw [Nat.div_eq_of_lt h2]
      simp [num]
  · have := hsl.len
    rw [shr_length, List.length_drop, ha.len] at this
    omega

end Go.Proofs.YtagahbbjljndeaaGreatDoor

namespace Go.Proofs.YtagahbbjljndeaaGreatDoor
open Go.RowKit

section
variable {W w : World} {L : List Ent} {u v : Value} {x y : Int} {N M : Nat} {c d : Bool}
end

/-- two boxes -/
theorem box_pair (w : World) (nb : Bool) (ao : Option Addr) (n ca : Nat) (mb : Bool) (bo : Option Addr) (m cb : Nat) :
    ∃ W, W = (w.alloc (.cells #[.bool nb, .slice ao n ca] 24)).alloc (.cells #[.bool mb, .slice bo m cb] 24) ∧ Ext w W ∧ Box W w.heap.size nb ao n ca ∧ Box W (w.heap.size + 1) mb bo m cb := by
  refine ⟨_, rfl, ((Below.refl _ w).alloc (Nat.le_refl _) _).alloc (by simp) _, ?_, ?_⟩
  · exact (Box.new w nb ao n ca).below ((Below.refl _ _).alloc (Nat.le_refl _) _)
  · have := Box.new (w.alloc (.cells #[.bool nb, .slice ao n ca] 24)) mb bo m cb
    simpa using this

set_option maxRecDepth 100000 in
set_option maxHeartbeats 4000000 in
theorem refSub_any (nb mb : Bool) (ao : Option Addr) (n ca : Nat) (bo : Option Addr) (m cb : Nat) (x y : Int) (w : World) (ha : Bg w nb ao n ca x) (hb : Bg w mb bo m cb y) :
    Calls Tryz.prog 46 #[.agg #[.bool nb, .slice ao n ca], .agg #[.bool mb, .slice bo m cb]] w fun e w' => ∃ nr ro k cr, e = .returned (.agg #[.bool nr, .slice ro k cr]) ∧ Bn w' nr ro k cr (x - y) ∧ Ext w w' := by
  go_enter Tryz.func46, Tryz.ntmps46
  go_wp2_with fail
  obtain ⟨W, hW, hB, hbx, hby, hrx, hz⟩ := boxes2 w nb ao n ca mb bo m cb
  rw [← hW]
  clear hW
  have ha0 := ha.below hB
  have hb0 := hb.below hB
  generalize hBe : w.heap.size = B at *
  have HBe := Lib.hid hBe; clear hBe
  have hBelow := Lib.hid hB
  clear ha hb hB
  have k0 := hbx.c0
  have k1' := hbx.c1
  have l0 := hby.c0
  have l1' := hby.c1
  go_region_held3 (fun w' => w'.cell? ⟨B, 0, none⟩ = some (.bool nb) ∧ w'.cell? ⟨B, 1, none⟩ = some (.slice ao n ca) ∧ w'.cell? ⟨B + 1, 0, none⟩ = some (.bool mb) ∧ w'.cell? ⟨B + 1, 1, none⟩ = some (.slice bo m cb))
    (first | exact ⟨k0, k1', l0, l1'⟩ | exact ⟨x1.c0, x1.c1, v1.c0, v1.c1⟩ | exact ⟨x2.c0, x2.c1, v2.c0, v2.c1⟩ | (refine ⟨?_, ?_, ?_, ?_⟩ <;> go_simp))
    (first
      | (go_at_call 83; refine (refNeg_any mb bo m cb y _ (by exact hb0.drew)).mono ?_; rintro e w1 ⟨gn, go', gk, gc, rfl, hg1, hgk, hw1⟩; have x1 := hbx.drew.below hw1; have v1 := hby.drew.below hw1; have y1 := hrx.drew.below hw1; have e0 := x1.c0; have e1 := x1.c1; have e2 := v1.c0; have e3 := v1.c1)
      | (go_at_call 42; refine (refAdd_any nb gn ao n ca go' gk gc x (-y) _ (by exact ha0.drew.below hw1) (by exact hg1.bg (Nat.le_trans hgk hb0.small))).mono ?_; rintro e w2 ⟨nr, ro, k, rc, rfl, hs2, hw2⟩; have x2 := x1.below hw2; have v2 := v1.below hw2; have y2 := y1.below hw2; clear e0 e1 e2 e3; have e0 := x2.c0; have e1 := x2.c1; have e2 := v2.c0; have e3 := v2.c1; have q0 := y2.c0; have q1 := y2.c1; have q2 := y2.f 0; have q3 := y2.f 1))
  obtain ⟨b1, l1⟩ := bnext hBelow.out (by omega) (Below.refl _ W).drew
  obtain ⟨b2, l2⟩ := bnext b1 l1 hw1
  obtain ⟨b3, l3⟩ := bnext b2 l2 hw2
  have hst := y2.stored nr ro k rc
  have u0 := hst.c0
  have u1 := hst.c1
  have HRES := Lib.hid (show Bn ((w2.setCell ⟨B + 1 + 1, 0, none⟩ (.bool nr)).setCell ⟨B + 1 + 1, 1, none⟩ (.slice ro k rc)) nr ro k rc (x - y) from by
    rw [Int.sub_eq_add_neg]; exact ⟨hs2.neg, hs2.sl.only_box y2 (only_set2 _ _ _ _)⟩)
  have HBL := Lib.hid (b3.trans ((only_set2 w2 (B + 1 + 1) (.bool nr) (.slice ro k rc)).below (by omega)))
  clear b1 b2 b3 hw1 hw2 hs2 hg1 hst ha0 hb0
  go_wp2
  refine bodyPost_ret (v := .agg #[.bool nr, .slice ro k rc]) (by simp [results, Tryz.results46, go_sem, u0, u1]) rfl ⟨_, ro, k, rc, rfl, HRES.out, ?_⟩
  rw [Ext, HBe.out]; exact HBL.out

section
variable {W w : World} {L : List Ent} {u v : Value} {x y : Int} {N M : Nat} {c d : Bool}
theorem i64_lt {i : Int} (h : -9223372036854775808 ≤ i ∧ i ≤ 9223372036854775807) : i.natAbs < 4294967296 ^ 2 := by
  have : (4294967296 : Nat) ^ 2 = 18446744073709551616 := rfl
  omega
theorem fromInt_bag (h : St W w L) (i : Int) (hi : -9223372036854775808 ≤ i ∧ i ≤ 9223372036854775807) :
    Calls Tryz.prog 24 #[.int .i64 i] w fun e w' => ∃ r, e = .returned r ∧ St W w' (⟨r, i, 2, true⟩ :: L) :=
  (fromInt_any i w hi.1 hi.2).mono fun e w' ⟨nr, ro, k, cr, he, hr, hw⟩ => ⟨_, he, h.push hw (ok_bn hr (i64_lt hi) (by omega))⟩
end
end Go.Proofs.YtagahbbjljndeaaGreatDoor

namespace Go.Proofs.YtagahbbjljndeaaGreatDoor
open Go Go.RowKit

theorem getD_window (U : List Int) (t m i : Nat) (h : i < m) : ((U.drop t).take m).getD i 0 = U.getD (t + i) 0 := by
  rw [take_getD _ _ _ h]
  simp [List.getD, List.getElem?_drop]

/-- k limbs of V - q ds are made; c is what is carried and borrowed -/
def Minus (V ds : List Int) (q : Int) (k : Nat) (L : List Int) (c : Int) : Prop := L.length = k ∧ Wf L ∧ num L = num (V.take k) - q * num (ds.take k) + 4294967296 ^ k * c
theorem Minus.start (V ds : List Int) (q : Int) : Minus V ds q 0 [] 0 := ⟨rfl, Wf.nil, by simp [num]⟩
theorem Minus.step {V ds L : List Int} {q c c' z : Int} {k : Nat} (h : Minus V ds q k L c) (hz : 0 ≤ z ∧ z < 4294967296) (ht : z = V.getD k 0 - q * ds.getD k 0 - c + 4294967296 * c') : Minus V ds q (k + 1) (L ++ [z]) c' := by
  obtain ⟨h1, h2, h3⟩ := h
  refine ⟨by simp [h1], h2.append (Wf.cons hz Wf.nil), ?_⟩
  rw [num_append, h1, num_take_next V k, num_take_next ds k, Int.pow_succ]
  simp only [num, Int.mul_zero, Int.add_zero]
  have e3 : (4294967296 : Int) ^ k * z = 4294967296 ^ k * V.getD k 0 - 4294967296 ^ k * (q * ds.getD k 0) - 4294967296 ^ k * c + 4294967296 ^ k * 4294967296 * c' := by
    rw [ht, Int.mul_add, Int.mul_sub, Int.mul_sub, Int.mul_assoc]
  have e4 : q * (num (ds.take k) + 4294967296 ^ k * ds.getD k 0) = q * num (ds.take k) + 4294967296 ^ k * (q * ds.getD k 0) := by
    rw [Int.mul_add, Int.mul_left_comm]
  rw [e4]
  omega
/-- one step: the product with what is carried, and the borrow -/
theorem minus_word (x y q c b : Int) (x0 : 0 ≤ x) (x1 : x < 4294967296) (p0 : 0 ≤ q * y) (p1 : q * y ≤ 18446744065119617025) (c0 : 0 ≤ c) (c1 : c ≤ 4294967295) (b0 : 0 ≤ b) (b1 : b ≤ 1) :
    0 ≤ (c + q * y) / 4294967296 ∧ (c + q * y) / 4294967296 ≤ 4294967295 ∧
    0 ≤ IntKind.u64.wrap (IntKind.u64.wrap (x - b) - (c + q * y) % 4294967296) / 9223372036854775808 ∧ IntKind.u64.wrap (IntKind.u64.wrap (x - b) - (c + q * y) % 4294967296) / 9223372036854775808 ≤ 1 ∧
    IntKind.u64.wrap (IntKind.u64.wrap (x - b) - (c + q * y) % 4294967296) % 4294967296 =
      x - q * y - (c + b) + 4294967296 * ((c + q * y) / 4294967296 + IntKind.u64.wrap (IntKind.u64.wrap (x - b) - (c + q * y) % 4294967296) / 9223372036854775808) := by
  rw [IntKind.wrap_u64, IntKind.wrap_u64]
  generalize q * y = p at *
  omega
theorem minus_last (x c b : Int) (x0 : 0 ≤ x) (x1 : x < 4294967296) (c0 : 0 ≤ c) (c1 : c ≤ 4294967295) (b0 : 0 ≤ b) (b1 : b ≤ 1) :
    0 ≤ IntKind.u64.wrap (IntKind.u64.wrap (x - b) - c % 4294967296) / 9223372036854775808 ∧ IntKind.u64.wrap (IntKind.u64.wrap (x - b) - c % 4294967296) / 9223372036854775808 ≤ 1 ∧
    IntKind.u64.wrap (IntKind.u64.wrap (x - b) - c % 4294967296) % 4294967296 =
      x - (c + b) + 4294967296 * (IntKind.u64.wrap (IntKind.u64.wrap (x - b) - c % 4294967296) / 9223372036854775808) := by
  rw [IntKind.wrap_u64, IntKind.wrap_u64]
  omega
theorem blk_grow {w : World} {g k m : Nat} {L : List Int} {z : Int} (h : Blk w g (L ++ List.replicate (m + 1) 0)) (hk : L.length = k) : Blk (w.setCell ⟨g, k, none⟩ (.int .u32 z)) g ((L ++ [z]) ++ List.replicate m 0) := by
  have := h.set k z
  subst hk
  rw [List.set_append_right _ _ (Nat.le_refl _), Nat.sub_self, List.replicate_succ, List.set_cons_zero] at this
  rw [List.append_assoc]
  exact this
end Go.Proofs.YtagahbbjljndeaaGreatDoor
