import Derived.Test.YtlpclahlolhjfaaGreatDoorMoRlU20
import Derived.Test.YtlpclahlolhjfaaGreatDoorMoRlU17
import Derived.Test.YtlpclahlolhjfaaGreatDoorMoRlU18
import Derived.Deep.RegionWith
import Derived.Deep.CutRange
import Derived.Test.YtlpclahlolhjfaaGreatDoorMoRlU13
import Derived.Test.YtlpclahlolhjfaaGreatDoorMoRlU15
import Derived.Test.YtlpclahlolhjfaaGreatDoorMoRlU16
import Derived.Deep.RegionHeld3
import Derived.Test.YtlpclahlolhjfaaGreatDoorMoRlU3
import Derived.Test.YtlpclahlolhjfaaGreatDoorMoRlU12
namespace Go.Proofs.YtlpclahlolhjfaaGreatDoor
open Go.RowKit

theorem bn_abs {w : World} {nr : Bool} {ro : Option Addr} {k rc : Nat} {zs : List Int} {x : Int} {nb : Bool} (hx : x = sgd nb zs) (hz : Wf zs) (h : Bn w nr ro k rc (sgd false zs)) : Bn w nr ro k rc x.natAbs := by
  have e : (x.natAbs : Int) = sgd false zs := by
    rw [hx, sgd_natAbs hz, Int.toNat_of_nonneg (num_nonneg hz)]; rfl
  rw [e]; exact h

set_option maxRecDepth 100000 in
set_option maxHeartbeats 1000000 in
theorem refAbs_any (nb : Bool) (ao : Option Addr) (n cap : Nat) (x : Int) (w : World) (h : Bg w nb ao n cap x) :
    Calls Tryz.prog 51 #[.agg #[.bool nb, .slice ao n cap]] w fun e w' => ∃ nr ro k cr, e = .returned (.agg #[.bool nr, .slice ro k cr]) ∧ Bn w' nr ro k cr x.natAbs ∧ k ≤ n ∧ Below w.heap.size w w' := by
  obtain ⟨⟨zs, hs, hx⟩, hsm⟩ := h
  have HX := Lib.hid hx; clear hx
  go_enter Tryz.func51, Tryz.ntmps51
  go_wp2_with fail
  obtain ⟨W, hW, hB, hbx, hrx, hz⟩ := boxes1 w nb ao n cap
  rw [← hW]
  clear hW
  have hs0 := hs.below hB
  generalize hBe : w.heap.size = B at *
  have HBe := Lib.hid hBe; clear hBe
  have k0 := hbx.c0
  have k1 := hbx.c1
  go_wp2_with fail
  refine (make1_any false ao n cap zs W hs0).mono ?_
  rintro e w1 ⟨nr, ro, k, rc, rfl, hs1, hk, hw1⟩
  have b1 := hrx.below hw1
  obtain ⟨h1, z1⟩ := bnext hB (by omega) hw1
  have q0 := b1.c0
  have q1 := b1.c1
  have q2 := b1.f 0
  have q3 := b1.f 1
  have hst := b1.stored nr ro k rc
  have u0 := hst.c0
  have u1 := hst.c1
  have hres : Bn ((w1.setCell ⟨B + 1, 0, none⟩ (.bool nr)).setCell ⟨B + 1, 1, none⟩ (.slice ro k rc)) nr ro k rc x.natAbs := bn_abs HX.out hs.wf ⟨hs1.neg, hs1.sl.only_box b1 (only_set2 _ _ _ _)⟩
  have hbl := h1.trans ((only_set2 w1 (B + 1) (.bool nr) (.slice ro k rc)).below (Nat.le_succ B))
  have HRES := Lib.hid hres; clear hres
  go_wp2
  refine bodyPost_ret (v := .agg #[.bool nr, .slice ro k rc]) (by simp [results, Tryz.results51, go_sem, u0, u1]) rfl ⟨_, ro, k, rc, rfl, HRES.out, hk, ?_⟩
  rw [HBe.out]; exact hbl

theorem pow32i (s k : Nat) : (2 : Int) ^ (s * 32 + k) = 4294967296 ^ s * 2 ^ k := by
  have := cast2 4294967296 s k
  have e := congrArg (Nat.cast (R := Int)) (pow32 s k)
  rw [Int.natCast_pow] at e
  exact e.trans this

/-- a magnitude shifted up -/
theorem refShl_num (a e : Nat) (ao : Option Addr) (n ca : Nat) (w : World) (ha : Sl w ao n ca (limbs a)) (hn : n ≤ 1000000000) (he : e ≤ 30000000000) :
    Calls Tryz.prog 82 #[.slice ao n ca, .int .i64 (e : Int)] w fun r w' => ∃ ro l cr L, r = .returned (.slice ro l cr) ∧ Sl w' ro l cr L ∧ num L = ((a * 2 ^ e : Nat) : Int) ∧ l = e / 32 + n + 1 ∧ Ext w w' := by
  have h := refShl_any (limbs a) (e / 32) (e % 32) ao n ca w ha (by omega) hn (by omega)
  have e1 : e / 32 * 32 + e % 32 = e := by omega
  have e2 : num (limbs a) * 4294967296 ^ (e / 32) * 2 ^ (e % 32) = ((a * 2 ^ e : Nat) : Int) := by
    rw [num_limbs, Int.natCast_mul, Int.natCast_pow]
    conv => rhs; rw [← e1]
    rw [Int.mul_assoc]
    congr 1
    exact (pow32i _ _).symm
  rw [e1, e2] at h
  exact h

/-- a magnitude shifted down -/
theorem refShr_num (a e : Nat) (ao : Option Addr) (n ca : Nat) (w : World) (ha : Sl w ao n ca (limbs a)) (hn : n ≤ 1000000000) (he : e ≤ 30000000000) :
    Calls Tryz.prog 83 #[.slice ao n ca, .int .i64 (e : Int)] w fun r w' => ∃ ro l cr L, r = .returned (.tuple #[.slice ro l cr, .bool (decide (a % 2 ^ e ≠ 0))]) ∧ Sl w' ro l cr L ∧ num L = ((a / 2 ^ e : Nat) : Int) ∧ l ≤ n ∧ Ext w w' := by
  have h := refShr_any (limbs a) (e / 32) (e % 32) ao n ca w ha (by omega) hn (by omega)
  have e1 : e / 32 * 32 + e % 32 = e := by omega
  rw [e1] at h
  refine h.mono fun r w' ⟨ro, l, cr, hr, hsl, hw⟩ => ⟨ro, l, cr, _, ?_, hsl, ?_, ?_, hw⟩
  · rw [hr, num_limbs]
    have e3 : ((a : Int) % 2 ^ e ≠ 0) ↔ (a % 2 ^ e ≠ 0) := by
      have : (a : Int) % 2 ^ e = ((a % 2 ^ e : Nat) : Int) := by rw [Int.natCast_emod, Int.natCast_pow]; rfl
      rw [this]; omega
    rw [decide_eq_decide.2 e3]
  · rw [num_shr (by omega)]
    by_cases hs : e / 32 ≤ n
    · rw [num_drop_div (Wf.limbs a) _ (by rw [ha.len]; exact hs), num_limbs]
      conv => rhs; rw [← e1, pow32, ← Nat.div_div_eq_div_mul, Int.natCast_ediv, Int.natCast_ediv, Int.natCast_pow, Int.natCast_pow]
      rfl
    · rw [List.drop_eq_nil_of_le (by rw [ha.len]; omega)]
      have h1 := (limbs_len_le a n).1 (by rw [ha.len]; exact Nat.le_refl _)
      have h2 : a < 2 ^ e := by
        have h3 : 4294967296 ^ n ≤ 2 ^ e := by
          rw [← e1, pow32]
          have := pow_le' (show n ≤ e / 32 by omega)
          exact Nat.le_trans this (Nat.le_mul_of_pos_right _ (Nat.pow_pos (by omega)))
        omega
      rw [Nat.div_eq_of_lt h2]
      simp [num]
  · have := hsl.len
    rw [shr_length, List.length_drop, ha.len] at this
    omega

theorem bn_num {w : World} {nr nb : Bool} {ro : Option Addr} {k rc : Nat} {L : List Int} {a : Nat} {x : Int} (h : Bn w nr ro k rc (sgd nb L)) (hL : num L = (a : Int)) (hx : x = if nb then -(a : Int) else a) : Bn w nr ro k rc x := by
  have : sgd nb L = x := by unfold sgd; rw [hL, hx]
  rwa [this] at h

set_option maxRecDepth 100000 in
set_option maxHeartbeats 4000000 in
/-- a shift up -/
theorem refShift_up (nb : Bool) (ao : Option Addr) (n cap : Nat) (x : Int) (e : Nat) (w : World) (h : Bg w nb ao n cap x) (he : e ≤ 1048576) :
    Calls Tryz.prog 38 #[.agg #[.bool nb, .slice ao n cap], .int .i64 (e : Int)] w fun r w' => ∃ nr ro k cr, r = .returned (.agg #[.bool nr, .slice ro k cr]) ∧ Bn w' nr ro k cr (x * 2 ^ e) ∧ k ≤ e / 32 + n + 1 ∧ Ext w w' := by
  obtain ⟨ei, hei⟩ : ∃ ei : Int, (e : Int) = ei := ⟨_, rfl⟩
  have hei0 : 0 ≤ ei := by omega
  have hei1 : ei ≤ 1048576 := by omega
  rw [hei]
  have HEI := Lib.hid hei; clear hei
  have hsm := h.small
  go_enter Tryz.func38, Tryz.ntmps38
  go_upto_region 1 with fail
  obtain ⟨W, hW, hB, hbx, hrx, hz⟩ := boxes1 w nb ao n cap
  rw [← hW]
  clear hW
  have h1 := h.below hB
  generalize hBe : w.heap.size = B at *
  have HBe := Lib.hid hBe; clear hBe
  have k0 := hbx.c0
  have k1 := hbx.c1
  go_wp2_with fail
  refine (refNorm_any nb ao n cap x W h1).mono ?_
  rintro r w1 ⟨nr, ro, k, rc, rfl, hs1, hk, hw1⟩
  have a1 := hbx.below hw1
  have b1 := hrx.below hw1
  have hB1 := bnext hB (by omega) hw1
  have ho := only_set2 w1 B (.bool nr) (.slice ro k rc)
  have a2 := a1.stored nr ro k rc
  have b2 := b1.only ho (by omega)
  have hn2 : Bn ((w1.setCell ⟨B, 0, none⟩ (.bool nr)).setCell ⟨B, 1, none⟩ (.slice ro k rc)) nr ro k rc x := ⟨hs1.neg, hs1.sl.only_box a1 ho⟩
  have hB2 := hB1.1.trans (ho.below (Nat.le_refl B))
  have hz2 : B + 2 ≤ ((w1.setCell ⟨B, 0, none⟩ (.bool nr)).setCell ⟨B, 1, none⟩ (.slice ro k rc)).heap.size := by rw [ho.size]; have := hw1.size; omega
  have k0 := a1.c0
  have k1 := a1.c1
  have k2 := a1.f 0
  have k3 := a1.f 1
  go_upto_region 2 with fail
  clear k0 k1 k2 k3 a1 b1 ho hw1 hbx hrx hs1
  generalize (w1.setCell ⟨B, 0, none⟩ (.bool nr)).setCell ⟨B, 1, none⟩ (.slice ro k rc) = V at *
  have k0 := a2.c0
  have k1 := a2.c1
  have HN := Lib.hid hn2
  have hsl := hn2.sl
  clear hn2
  have hcall : ∀ wx, Ext V wx → Calls Tryz.prog 82 #[.slice ro k rc, .int .i64 (e : Int)] wx fun r w' => ∃ ro l cr L, r = .returned (.slice ro l cr) ∧ Sl w' ro l cr L ∧ num L = ((x.natAbs * 2 ^ e : Nat) : Int) ∧ l = e / 32 + k + 1 ∧ Ext wx w' :=
    fun wx hx => refShl_num x.natAbs e ro k rc wx (hsl.below hx) (by omega) (by omega)
  rw [HEI.out] at hcall
  have HC := Lib.hid hcall; clear hcall hsl
  have HA := Lib.hid a2
  have HB := Lib.hid b2
  have q0 := b2.c0
  have q1 := b2.c1
  have q2 := b2.f 0
  have q3 := b2.f 1
  clear a2 b2
  go_wp2_with fail
  go_region_with (first
    | (go_at_call 82; refine (HC.out _ (by exact (Below.refl _ _).drew)).mono ?_; rintro r w3 ⟨so, l, sc, L, rfl, hL, hnum, hl, hw3⟩; have HNUM := Lib.hid hnum; have HLL := Lib.hid hl; clear hnum hl; have hw3 : Ext V w3 := Ext.trans (by exact (Below.refl _ _).drew) hw3; have b3 := HB.out.below hw3; have a3 := HA.out.below hw3; have p0 := a3.c0; have p1 := a3.c1; have g0 := b3.f 0; have g1 := b3.f 1)
    | (go_at_call 52; refine (make1_any nr so l sc L w3 hL).mono ?_; rintro r w4 ⟨mr, mo, j, mc, rfl, hm4, hj, hw4⟩; have b4 := b3.below hw4; have e0 := b4.c0; have e1 := b4.c1; have f0 := b4.f 0; have f1 := b4.f 1))
  all_goals
    clear k0 k1 q0 q1 q2 q3 p0 p1 g0 g1
    have z3 := b4.stored mr mo j mc
    have z0 := z3.c0
    have z1 := z3.c1
    have hres : Bn ((w4.setCell ⟨B + 1, 0, none⟩ (.bool mr)).setCell ⟨B + 1, 1, none⟩ (.slice mo j mc)) mr mo j mc (x * 2 ^ e) := by
      refine bn_num (nb := nr) (a := x.natAbs * 2 ^ e) ⟨hm4.neg, hm4.sl.only_box b4 (only_set2 _ _ _ _)⟩ HNUM.out ?_
      have h5 := HN.out.neg
      rw [Int.natCast_mul, Int.natCast_pow]
      by_cases hx : x < 0
      · rw [h5, decide_eq_true hx, if_pos rfl, ← Int.neg_mul]
        congr 1
        omega
      · rw [h5, decide_eq_false hx, if_neg (by decide)]
        congr 1
        omega
    have hB3 := bnext hB2 (by omega) hw3
    have hbl := (hB3.1.trans (hw4.mono hB3.2)).trans ((only_set2 w4 (B + 1) (.bool mr) (.slice mo j mc)).below (Nat.le_succ B))
    have HRES := Lib.hid hres; clear hres
    have HBL := Lib.hid hbl; clear hbl
    go_wp2
    refine bodyPost_ret (v := .agg #[.bool mr, .slice mo j mc]) (by simp [results, Tryz.results38, go_sem, z0, z1]) rfl ⟨_, mo, j, mc, rfl, HRES.out, by have := HLL.out; omega, ?_⟩
    show Below _ _ _
    rw [HBe.out]; exact HBL.out
end Go.Proofs.YtlpclahlolhjfaaGreatDoor

namespace Go.Proofs.YtlpclahlolhjfaaGreatDoor
open Go.RowKit

section
variable {W w : World} {L : List Ent} {u v : Value} {x y : Int} {N M : Nat} {c d : Bool}
end

/-- two boxes -/
theorem box_pair (w : World) (nb : Bool) (ao : Option Addr) (n ca : Nat) (mb : Bool) (bo : Option Addr) (m cb : Nat) :
    ∃ W, W = (w.alloc (.cells #[.bool nb, .slice ao n ca] 27)).alloc (.cells #[.bool mb, .slice bo m cb] 27) ∧ Ext w W ∧ Box W w.heap.size nb ao n ca ∧ Box W (w.heap.size + 1) mb bo m cb := by
  refine ⟨_, rfl, ((Below.refl _ w).alloc (Nat.le_refl _) _).alloc (by simp) _, ?_, ?_⟩
  · exact (Box.new w nb ao n ca).below ((Below.refl _ _).alloc (Nat.le_refl _) _)
  · have := Box.new (w.alloc (.cells #[.bool nb, .slice ao n ca] 27)) mb bo m cb
    simpa using this

set_option maxRecDepth 100000 in
set_option maxHeartbeats 4000000 in
theorem refSub_any (nb mb : Bool) (ao : Option Addr) (n ca : Nat) (bo : Option Addr) (m cb : Nat) (x y : Int) (w : World) (ha : Bg w nb ao n ca x) (hb : Bg w mb bo m cb y) :
    Calls Tryz.prog 39 #[.agg #[.bool nb, .slice ao n ca], .agg #[.bool mb, .slice bo m cb]] w fun e w' => ∃ nr ro k cr, e = .returned (.agg #[.bool nr, .slice ro k cr]) ∧ Bn w' nr ro k cr (x - y) ∧ Ext w w' := by
  go_enter Tryz.func39, Tryz.ntmps39
  go_wp2_with fail
  obtain ⟨W, hW, hB, hbx, hby, hrx, hz⟩ := boxes2 w nb ao n ca mb bo m cb
  rw [← hW]
  clear hW
  have ha0 := ha.below hB
  have hb0 := hb.below hB
  generalize hBe : w.heap.size = B at *
  have HBe := Lib.hid hBe; clear hBe
  have hBelow := Lib.hid hB
  clear ha hb hB
  have k0 := hbx.c0
  have k1' := hbx.c1
  have l0 := hby.c0
  have l1' := hby.c1
  go_region_held3 (fun w' => w'.cell? ⟨B, 0, none⟩ = some (.bool nb) ∧ w'.cell? ⟨B, 1, none⟩ = some (.slice ao n ca) ∧ w'.cell? ⟨B + 1, 0, none⟩ = some (.bool mb) ∧ w'.cell? ⟨B + 1, 1, none⟩ = some (.slice bo m cb))
    (first | exact ⟨k0, k1', l0, l1'⟩ | exact ⟨x1.c0, x1.c1, v1.c0, v1.c1⟩ | exact ⟨x2.c0, x2.c1, v2.c0, v2.c1⟩ | (refine ⟨?_, ?_, ?_, ?_⟩ <;> go_simp))
    (first
      | (go_at_call 49; refine (refNeg_any mb bo m cb y _ (by exact hb0.drew)).mono ?_; rintro e w1 ⟨gn, go', gk, gc, rfl, hg1, hgk, hw1⟩; have x1 := hbx.drew.below hw1; have v1 := hby.drew.below hw1; have y1 := hrx.drew.below hw1; have e0 := x1.c0; have e1 := x1.c1; have e2 := v1.c0; have e3 := v1.c1)
      | (go_at_call 35; refine (refAdd_any nb gn ao n ca go' gk gc x (-y) _ (by exact ha0.drew.below hw1) (by exact hg1.bg (Nat.le_trans hgk hb0.small))).mono ?_; rintro e w2 ⟨nr, ro, k, rc, rfl, hs2, hw2⟩; have x2 := x1.below hw2; have v2 := v1.below hw2; have y2 := y1.below hw2; clear e0 e1 e2 e3; have e0 := x2.c0; have e1 := x2.c1; have e2 := v2.c0; have e3 := v2.c1; have q0 := y2.c0; have q1 := y2.c1; have q2 := y2.f 0; have q3 := y2.f 1))
  obtain ⟨b1, l1⟩ := bnext hBelow.out (by omega) (Below.refl _ W).drew
  obtain ⟨b2, l2⟩ := bnext b1 l1 hw1
  obtain ⟨b3, l3⟩ := bnext b2 l2 hw2
  have hst := y2.stored nr ro k rc
  have u0 := hst.c0
  have u1 := hst.c1
  have HRES := Lib.hid (show Bn ((w2.setCell ⟨B + 1 + 1, 0, none⟩ (.bool nr)).setCell ⟨B + 1 + 1, 1, none⟩ (.slice ro k rc)) nr ro k rc (x - y) from by
    rw [Int.sub_eq_add_neg]; exact ⟨hs2.neg, hs2.sl.only_box y2 (only_set2 _ _ _ _)⟩)
  have HBL := Lib.hid (b3.trans ((only_set2 w2 (B + 1 + 1) (.bool nr) (.slice ro k rc)).below (by omega)))
  clear b1 b2 b3 hw1 hw2 hs2 hg1 hst ha0 hb0
  go_wp2
  refine bodyPost_ret (v := .agg #[.bool nr, .slice ro k rc]) (by simp [results, Tryz.results39, go_sem, u0, u1]) rfl ⟨_, ro, k, rc, rfl, HRES.out, ?_⟩
  rw [Ext, HBe.out]; exact HBL.out

theorem sgn3_sub (x y : Int) : sgn3 (x - y) 0 = sgn3 x y := by unfold sgn3; split <;> split <;> (try split) <;> omega

set_option maxRecDepth 100000 in
set_option maxHeartbeats 4000000 in
theorem refCmp_any (nb mb : Bool) (ao : Option Addr) (n ca : Nat) (bo : Option Addr) (m cb : Nat) (x y : Int) (w : World) (ha : Bg w nb ao n ca x) (hb : Bg w mb bo m cb y) (hn : n ≤ 100000) (hm : m ≤ 100000) :
    Calls Tryz.prog 37 #[.agg #[.bool nb, .slice ao n ca], .agg #[.bool mb, .slice bo m cb]] w fun e w' => e = .returned (.int .i64 (sgn3 x y)) ∧ Ext w w' := by
  have hk : ∀ (w' : World) (nr : Bool) (ro : Option Addr) (k rc : Nat), Bn w' nr ro k rc (x - y) → k ≤ 1000000000 := by
    intro w' nr ro k rc h
    obtain ⟨⟨zs, hz, hx⟩, _⟩ := ha
    obtain ⟨⟨ys, hy, hyy⟩, _⟩ := hb
    have h1 := ok_raw (nb := nb) hz 100000 hn (by omega)
    have h2 := ok_raw (nb := mb) hy 100000 hm (by omega)
    obtain ⟨_, _, _, _, _, _, _, a1, _⟩ := h1
    obtain ⟨_, _, _, _, _, _, _, a2, _⟩ := h2
    simp only at a1 a2
    rw [← hx] at a1
    rw [← hyy] at a2
    have h3 := len_of_lt (abs_sub a1 a2)
    rw [h.sl.len] at h3
    omega
  have HK := Lib.hid hk; clear hk
  go_enter Tryz.func37, Tryz.ntmps37
  go_wp2_with fail
  obtain ⟨W, hW, hB, hbx, hby⟩ := box_pair w nb ao n ca mb bo m cb
  rw [← hW]
  clear hW
  have ha0 := ha.below hB
  have hb0 := hb.below hB
  have HB := Lib.hid hB
  generalize hBe : w.heap.size = B at *
  clear ha hb hB hBe
  have k0 := hbx.c0
  have k1' := hbx.c1
  have l0 := hby.c0
  have l1' := hby.c1
  go_wp2_with fail
  refine (refSub_any nb mb ao n ca bo m cb x y W ha0 hb0).mono ?_
  rintro e w1 ⟨nr, ro, k, rc, rfl, hs1, hw1⟩
  go_wp2_with fail
  refine (refSign_any nr ro k rc (x - y) _ (hs1.bg (HK.out _ _ _ _ _ hs1))).mono ?_
  rintro e w2 ⟨rfl, hw2⟩
  go_wp2
  go_ret
  exact ⟨by rw [sgn3_sub]; rfl, HB.out.trans (Ext.trans hw1 hw2)⟩

section
variable {W w : World} {L : List Ent} {u v : Value} {x y : Int} {N M : Nat} {c d : Bool}
theorem i64_lt {i : Int} (h : -9223372036854775808 ≤ i ∧ i ≤ 9223372036854775807) : i.natAbs < 4294967296 ^ 2 := by
  have : (4294967296 : Nat) ^ 2 = 18446744073709551616 := rfl
  omega
theorem fromInt_bag (h : St W w L) (i : Int) (hi : -9223372036854775808 ≤ i ∧ i ≤ 9223372036854775807) :
    Calls Tryz.prog 21 #[.int .i64 i] w fun e w' => ∃ r, e = .returned r ∧ St W w' (⟨r, i, 2, true⟩ :: L) :=
  (fromInt_any i w hi.1 hi.2).mono fun e w' ⟨nr, ro, k, cr, he, hr, hw⟩ => ⟨_, he, h.push hw (ok_bn hr (i64_lt hi) (by omega))⟩
end
end Go.Proofs.YtlpclahlolhjfaaGreatDoor

namespace Go.Proofs.YtlpclahlolhjfaaGreatDoor
open Go Go.RowKit

theorem getD_window (U : List Int) (t m i : Nat) (h : i < m) : ((U.drop t).take m).getD i 0 = U.getD (t + i) 0 := by
  rw [take_getD _ _ _ h]
  simp [List.getD, List.getElem?_drop]

/-- k limbs of V - q ds are made; c is what is carried and borrowed -/
def Minus (V ds : List Int) (q : Int) (k : Nat) (L : List Int) (c : Int) : Prop := L.length = k ∧ Wf L ∧ num L = num (V.take k) - q * num (ds.take k) + 4294967296 ^ k * c
theorem Minus.start (V ds : List Int) (q : Int) : Minus V ds q 0 [] 0 := ⟨rfl, Wf.nil, by simp [num]⟩
theorem Minus.step {V ds L : List Int} {q c c' z : Int} {k : Nat} (h : Minus V ds q k L c) (hz : 0 ≤ z ∧ z < 4294967296) (ht : z = V.getD k 0 - q * ds.getD k 0 - c + 4294967296 * c') : Minus V ds q (k + 1) (L ++ [z]) c' := by
  obtain ⟨h1, h2, h3⟩ := h
  refine ⟨by simp [h1], h2.append (Wf.cons hz Wf.nil), ?_⟩
  rw [num_append, h1, num_take_next V k, num_take_next ds k, Int.pow_succ]
  simp only [num, Int.mul_zero, Int.add_zero]
  have e3 : (4294967296 : Int) ^ k * z = 4294967296 ^ k * V.getD k 0 - 4294967296 ^ k * (q * ds.getD k 0) - 4294967296 ^ k * c + 4294967296 ^ k * 4294967296 * c' := by
    rw [ht, Int.mul_add, Int.mul_sub, Int.mul_sub, Int.mul_assoc]
  have e4 : q * (num (ds.take k) + 4294967296 ^ k * ds.getD k 0) = q * num (ds.take k) + 4294967296 ^ k * (q * ds.getD k 0) := by
    rw [Int.mul_add, Int.mul_left_comm]
  rw [e4]
  omega
/-- one step: the product with what is carried, and the borrow -/
theorem minus_word (x y q c b : Int) (x0 : 0 ≤ x) (x1 : x < 4294967296) (p0 : 0 ≤ q * y) (p1 : q * y ≤ 18446744065119617025) (c0 : 0 ≤ c) (c1 : c ≤ 4294967295) (b0 : 0 ≤ b) (b1 : b ≤ 1) :
    0 ≤ (c + q * y) / 4294967296 ∧ (c + q * y) / 4294967296 ≤ 4294967295 ∧
    0 ≤ IntKind.u64.wrap (IntKind.u64.wrap (x - b) - (c + q * y) % 4294967296) / 9223372036854775808 ∧ IntKind.u64.wrap (IntKind.u64.wrap (x - b) - (c + q * y) % 4294967296) / 9223372036854775808 ≤ 1 ∧
    IntKind.u64.wrap (IntKind.u64.wrap (x - b) - (c + q * y) % 4294967296) % 4294967296 =
      x - q * y - (c + b) + 4294967296 * ((c + q * y) / 4294967296 + IntKind.u64.wrap (IntKind.u64.wrap (x - b) - (c + q * y) % 4294967296) / 9223372036854775808) := by
  rw [IntKind.wrap_u64, IntKind.wrap_u64]
  generalize q * y = p at *
  omega
theorem minus_last (x c b : Int) (x0 : 0 ≤ x) (x1 : x < 4294967296) (c0 : 0 ≤ c) (c1 : c ≤ 4294967295) (b0 : 0 ≤ b) (b1 : b ≤ 1) :
    0 ≤ IntKind.u64.wrap (IntKind.u64.wrap (x - b) - c % 4294967296) / 9223372036854775808 ∧ IntKind.u64.wrap (IntKind.u64.wrap (x - b) - c % 4294967296) / 9223372036854775808 ≤ 1 ∧
    IntKind.u64.wrap (IntKind.u64.wrap (x - b) - c % 4294967296) % 4294967296 =
      x - (c + b) + 4294967296 * (IntKind.u64.wrap (IntKind.u64.wrap (x - b) - c % 4294967296) / 9223372036854775808) := by
  rw [IntKind.wrap_u64, IntKind.wrap_u64]
  omega
theorem blk_grow {w : World} {g k m : Nat} {L : List Int} {z : Int} (h : Blk w g (L ++ List.replicate (m + 1) 0)) (hk : L.length = k) : Blk (w.setCell ⟨g, k, none⟩ (.int .u32 z)) g ((L ++ [z]) ++ List.replicate m 0) := by
  have := h.set k z
  subst hk
  rw [List.set_append_right _ _ (Nat.le_refl _), Nat.sub_self, List.replicate_succ, List.set_cons_zero] at this
  rw [List.append_assoc]
  exact this
end Go.Proofs.YtlpclahlolhjfaaGreatDoor

namespace Go.Proofs.YtlpclahlolhjfaaGreatDoor
open Go.RowKit

set_option maxRecDepth 100000 in
set_option maxHeartbeats 2000000 in
theorem refShl_own (zs : List Int) (s k : Nat) (ao : Option Addr) (n ca : Nat) (w : World) (ha : Sl w ao n ca zs) (hk : k < 32) (hn : n ≤ 1000000000) (hs : s ≤ 1000000000) :
    Calls Tryz.prog 82 #[.slice ao n ca, .int .i64 ((s * 32 + k : Nat) : Int)] w fun e w' => ∃ g cr L T, e = .returned (.slice (some ⟨g, 0, none⟩) (s + n + 1) cr) ∧ w.heap.size ≤ g ∧ UB w' g L T ∧ Wf L ∧ L.length = s + n + 1 ∧ num L = num zs * 4294967296 ^ s * 2 ^ k ∧ s + n + 1 ≤ cr ∧ Ext w w' := by
  have hd : ((s * 32 + k : Nat) : Int) / 32 = (s : Int) := by omega
  have hr : ((s * 32 + k : Nat) : Int) % 32 = (k : Int) := by omega
  obtain ⟨x, hx⟩ : ∃ x : Int, ((s * 32 + k : Nat) : Int) = x := ⟨_, rfl⟩
  rw [hx] at hd hr ⊢
  have hx0 : 0 ≤ x := by omega
  have hx1 : x ≤ 100000000000 := by omega
  have HX := Lib.hid hx; clear hx
  have hal := ha.len
  have HAL := Lib.hid hal; clear hal
  have hwz := ha.wf
  go_enter Tryz.func82, Tryz.ntmps82
  go_wp2_with (refine wpList_make_u32 _ rfl _ _ rfl _ s rfl rfl (by omega) (by omega) ?_)
  intro w1 hb1 hw1
  have hown0 := Own.of_blk hb1 (Nat.le_refl _) (by simp; omega)
  simp only [List.length_replicate] at hown0
  generalize hBe : w.heap.size = B at *
  have HBe := Lib.hid hBe; clear hBe hb1
  go_wp2
  go_loopw [5, 6, 7] (fun v c i wr => ∃ (q : Nat) (L : List Int) (cc : Int), q ≤ n ∧ i = .int .i64 q ∧ c = .int .u64 cc ∧ ShlAt zs k q L cc ∧ Own wr B v (List.replicate s 0 ++ L) ∧ Below B w wr) (fun _ _ i _ => n - (intOf i).toNat)
  case atStart => exact ⟨0, [], 0, Nat.zero_le _, rfl, rfl, ⟨rfl, Wf.nil, Int.le_refl _, two_pos k, by simp [num]⟩, by simpa using hown0, hw1⟩
  case round =>
    obtain ⟨q, L, cc, hq, rfl, rfl, hsh, hown, hB⟩ := hrel
    have hlen : (List.replicate s (0 : Int) ++ L).length = s + q := by rw [List.length_append, List.length_replicate, hsh.1]
    have hc0 := hsh.2.2.1
    have hc1 := hsh.2.2.2.1
    have HSH := Lib.hid hsh; clear hsh
    have hszq : B ≤ wr.heap.size := by have := hB.size; have := HBe.out; omega
    have HSZ := Lib.hid hszq; clear hszq
    have hlq : (List.replicate s (0 : Int) ++ L).length ≤ 1099511627776 := by omega
    have HLQ := Lib.hid hlq; clear hlq
    have HLEN := Lib.hid hlen; clear hlen
    by_cases hlt : q < n
    · obtain ⟨b, off, e0, hc⟩ := (ha.below (by rw [HBe.out]; exact hB)).cells (by rw [HAL.out]; omega)
      subst e0
      have c1 := hc q (by rw [HAL.out]; omega)
      clear hc
      obtain ⟨y, hy⟩ : ∃ y, zs.getD q 0 = y := ⟨_, rfl⟩
      have hyr := hwz.getD q
      rw [hy] at c1 hyr
      obtain ⟨y0, y1⟩ := hyr
      have HY := Lib.hid hy; clear hy
      have hor := or_low64 hk hc0 hc1 y0 y1
      have HOR := Lib.hid hor
      have HWR := Lib.hid (wrap_shl64 hk y0 y1)
      clear hor
      go_wp2_with (at_builtin; refine wpList_append_u32 _ rfl (.tmp 27) (.tmp 30) rfl B _ (List.replicate s 0 ++ L) _ rfl rfl hown HSZ.out HLQ.out ?_)
      intro v' w2 hown' hB1
      go_wp2
      go_roundw
      case rel =>
        rw [HWR.out, HOR.out.1] at hown' ⊢
        have h1 := HSH.out.step (by rw [HAL.out]; exact hlt) (t := cc + y * 2 ^ k) (by rw [HY.out]) HOR.out.2.1 HOR.out.2.2
        exact ⟨q + 1, _, _, by omega, by go_num, rfl, h1, hown', hB.trans hB1⟩
      case measure => simp [intOf] <;> omega
    · obtain rfl : q = n := by omega
      go_wp2_with (at_builtin; refine wpList_append_u32 _ rfl (.tmp 34) (.tmp 37) rfl B _ (List.replicate s 0 ++ L) _ rfl rfl hown HSZ.out HLQ.out ?_)
      intro v' w2 hown' hB1
      have hcc : cc % 4294967296 = cc := by
        have h3 := Int.pow_lt_pow_of_lt (show (1 : Int) < 2 by omega) hk
        have h4 : (2 : Int) ^ 32 = 4294967296 := rfl
        exact Int.emod_eq_of_lt hc0 (by omega)
      rw [hcc] at hown'
      have hwf : Wf (List.replicate s 0 ++ (L ++ [cc])) := (Wf.replicate s).append (HSH.out.2.1.append (Wf.cons ⟨hc0, by omega⟩ Wf.nil))
      have hll : (List.replicate s (0 : Int) ++ (L ++ [cc])).length = s + q + 1 := by
        rw [List.length_append, List.length_append, List.length_replicate, HSH.out.1]; rfl
      have hnum : num (List.replicate s 0 ++ (L ++ [cc])) = num zs * 4294967296 ^ s * 2 ^ k := by
        have h5 := HSH.out.2.2.2.2
        rw [List.take_of_length_le (by rw [HAL.out]; exact Nat.le_refl _)] at h5
        rw [num_append, num_append, num_replicate, List.length_replicate, HSH.out.1]
        simp only [num]
        rw [Int.mul_zero, Int.add_zero, h5, Int.zero_add, Int.mul_comm (num zs), ← Int.mul_assoc, Int.mul_comm (num zs), Int.mul_right_comm, Int.mul_assoc]
      obtain ⟨g, rc, T, hv', hBg, hub, hcap⟩ := hown'.ub (by simp)
      rw [hll] at hcap hv'
      subst hv'
      have HUB := Lib.hid hub
      have HNUM := Lib.hid hnum
      have HLL := Lib.hid hll
      have HWF := Lib.hid hwf
      clear hub hnum hown' hwf hll
      go_wp2
      go_ret
      exact ⟨g, rc, _, T, rfl, by rw [HBe.out]; exact hBg, HUB.out, HWF.out, HLL.out, HNUM.out, hcap, by rw [Ext, HBe.out]; exact hB.trans hB1⟩
end Go.Proofs.YtlpclahlolhjfaaGreatDoor
