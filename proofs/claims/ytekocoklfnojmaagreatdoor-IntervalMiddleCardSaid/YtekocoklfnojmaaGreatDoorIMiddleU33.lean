import Derived.Test.YtekocoklfnojmaaGreatDoorIMiddleU32
import Derived.Deep.RegionWith
import Derived.Deep.CutRange
import Derived.Test.YtekocoklfnojmaaGreatDoorIMiddleU25
import Derived.Deep.CutBlock
import Derived.Test.YtekocoklfnojmaaGreatDoorIMiddleU26
namespace Go.Proofs.YtekocoklfnojmaaGreatDoor
open Go.RowKit

theorem bn_abs {w : World} {nr : Bool} {ro : Option Addr} {k rc : Nat} {zs : List Int} {x : Int} {nb : Bool} (hx : x = sgd nb zs) (hz : Wf zs) (h : Bn w nr ro k rc (sgd false zs)) : Bn w nr ro k rc x.natAbs := by
  have e : (x.natAbs : Int) = sgd false zs := by
    rw [hx, sgd_natAbs hz, Int.toNat_of_nonneg (num_nonneg hz)]; rfl
  rw [e]; exact h

set_option maxRecDepth 100000 in
set_option maxHeartbeats 1000000 in
theorem refAbs_any (nb : Bool) (ao : Option Addr) (n cap : Nat) (x : Int) (w : World) (h : Bg w nb ao n cap x) :
    Calls Tryz.prog 147 #[.agg #[.bool nb, .slice ao n cap]] w fun e w' => ∃ nr ro k cr, e = .returned (.agg #[.bool nr, .slice ro k cr]) ∧ Bn w' nr ro k cr x.natAbs ∧ k ≤ n ∧ Below w.heap.size w w' := by
  obtain ⟨⟨zs, hs, hx⟩, hsm⟩ := h
  have HX := Lib.hid hx; clear hx
  go_enter Tryz.func147, Tryz.ntmps147
  go_wp2_with fail
  obtain ⟨W, hW, hB, hbx, hrx, hz⟩ := boxes1 w nb ao n cap
  rw [← hW]
  clear hW
  have hs0 := hs.below hB
  generalize hBe : w.heap.size = B at *
  have HBe := Lib.hid hBe; clear hBe
  have k0 := hbx.c0
  have k1 := hbx.c1
  go_wp2_with fail
  refine (make1_any false ao n cap zs W hs0).mono ?_
  rintro e w1 ⟨nr, ro, k, rc, rfl, hs1, hk, hw1⟩
  have b1 := hrx.below hw1
  obtain ⟨h1, z1⟩ := bnext hB (by omega) hw1
  have q0 := b1.c0
  have q1 := b1.c1
  have q2 := b1.f 0
  have q3 := b1.f 1
  have hst := b1.stored nr ro k rc
  have u0 := hst.c0
  have u1 := hst.c1
  have hres : Bn ((w1.setCell ⟨B + 1, 0, none⟩ (.bool nr)).setCell ⟨B + 1, 1, none⟩ (.slice ro k rc)) nr ro k rc x.natAbs := bn_abs HX.out hs.wf ⟨hs1.neg, hs1.sl.only_box b1 (only_set2 _ _ _ _)⟩
  have hbl := h1.trans ((only_set2 w1 (B + 1) (.bool nr) (.slice ro k rc)).below (Nat.le_succ B))
  have HRES := Lib.hid hres; clear hres
  go_wp2
  refine bodyPost_ret (v := .agg #[.bool nr, .slice ro k rc]) (by simp [results, Tryz.results147, go_sem, u0, u1]) rfl ⟨_, ro, k, rc, rfl, HRES.out, hk, ?_⟩
  rw [HBe.out]; exact hbl

theorem pow32i (s k : Nat) : (2 : Int) ^ (s * 32 + k) = 4294967296 ^ s * 2 ^ k := by
  have := cast2 4294967296 s k
  have e := congrArg (Nat.cast (R := Int)) (pow32 s k)
  rw [Int.natCast_pow] at e
  exact e.trans this

/-- a magnitude shifted up -/
theorem refShl_num (a e : Nat) (ao : Option Addr) (n ca : Nat) (w : World) (ha : Sl w ao n ca (limbs a)) (hn : n ≤ 1000000000) (he : e ≤ 30000000000) :
    Calls Tryz.prog 228 #[.slice ao n ca, .int .i64 (e : Int)] w fun r w' => ∃ ro l cr L, r = .returned (.slice ro l cr) ∧ Sl w' ro l cr L ∧ num L = ((a * 2 ^ e : Nat) : Int) ∧ l = e / 32 + n + 1 ∧ Ext w w' := by
  have h := refShl_any (limbs a) (e / 32) (e % 32) ao n ca w ha (by omega) hn (by omega)
  have e1 : e / 32 * 32 + e % 32 = e := by omega
  have e2 : num (limbs a) * 4294967296 ^ (e / 32) * 2 ^ (e % 32) = ((a * 2 ^ e : Nat) : Int) := by
    rw [num_limbs, Int.natCast_mul, Int.natCast_pow]
    conv => rhs; rw [← e1]
    rw [Int.mul_assoc]
    congr 1
    exact (pow32i _ _).symm
  rw [e1, e2] at h
  exact h

/-- a magnitude shifted down -/
theorem refShr_num (a e : Nat) (ao : Option Addr) (n ca : Nat) (w : World) (ha : Sl w ao n ca (limbs a)) (hn : n ≤ 1000000000) (he : e ≤ 30000000000) :
    Calls Tryz.prog 229 #[.slice ao n ca, .int .i64 (e : Int)] w fun r w' => ∃ ro l cr L, r = .returned (.tuple #[.slice ro l cr, .bool (decide (a % 2 ^ e ≠ 0))]) ∧ Sl w' ro l cr L ∧ num L = ((a / 2 ^ e : Nat) : Int) ∧ l ≤ n ∧ Ext w w' := by
  have h := refShr_any (limbs a) (e / 32) (e % 32) ao n ca w ha (by omega) hn (by omega)
  have e1 : e / 32 * 32 + e % 32 = e := by omega
  rw [e1] at h
  refine h.mono fun r w' ⟨ro, l, cr, hr, hsl, hw⟩ => ⟨ro, l, cr, _, ?_, hsl, ?_, ?_, hw⟩
  · rw [hr, num_limbs]
    have e3 : ((a : Int) % 2 ^ e ≠ 0) ↔ (a % 2 ^ e ≠ 0) := by
      have : (a : Int) % 2 ^ e = ((a % 2 ^ e : Nat) : Int) := by rw [Int.natCast_emod, Int.natCast_pow]; rfl
      rw [this]; omega
    rw [decide_eq_decide.2 e3]
  · rw [num_shr (by omega)]
    by_cases hs : e / 32 ≤ n
    · rw [num_drop_div (Wf.limbs a) _ (by rw [ha.len]; exact hs), num_limbs]
      conv => rhs; rw [← e1, pow32, ← Nat.div_div_eq_div_mul, Int.natCast_ediv, Int.natCast_ediv, Int.natCast_pow, Int.natCast_pow]
      rfl
    · rw [List.drop_eq_nil_of_le (by rw [ha.len]; omega)]
      have h1 := (limbs_len_le a n).1 (by rw [ha.len]; exact Nat.le_refl _)
      have h2 : a < 2 ^ e := by
        have h3 : 4294967296 ^ n ≤ 2 ^ e := by
          rw [← e1, pow32]
          have := pow_le' (show n ≤ e / 32 by omega)
          exact Nat.le_trans this (Nat.le_mul_of_pos_right _ (Nat.pow_pos (by omega)))
        omega
      rw [Nat.div_eq_of_lt h2]
      simp [num]
  · have := hsl.len
    rw [shr_length, List.length_drop, ha.len] at this
    omega

theorem bn_num {w : World} {nr nb : Bool} {ro : Option Addr} {k rc : Nat} {L : List Int} {a : Nat} {x : Int} (h : Bn w nr ro k rc (sgd nb L)) (hL : num L = (a : Int)) (hx : x = if nb then -(a : Int) else a) : Bn w nr ro k rc x := by
  have : sgd nb L = x := by unfold sgd; rw [hL, hx]
  rwa [this] at h

set_option maxRecDepth 100000 in
set_option maxHeartbeats 4000000 in
/-- a shift down by at least a bit, of a number that is not negative -/
theorem refShift_down (nb : Bool) (ao : Option Addr) (n cap : Nat) (x : Int) (e : Nat) (w : World) (h : Bg w nb ao n cap x) (h0 : 0 ≤ x) (he0 : 0 < e) (he : e ≤ 1048576) :
    Calls Tryz.prog 190 #[.agg #[.bool nb, .slice ao n cap], .int .i64 (-(e : Int))] w fun r w' => ∃ nr ro k cr, r = .returned (.agg #[.bool nr, .slice ro k cr]) ∧ Bn w' nr ro k cr (x / 2 ^ e) ∧ k ≤ n ∧ Ext w w' := by
  obtain ⟨ei, hei⟩ : ∃ ei : Int, (e : Int) = ei := ⟨_, rfl⟩
  have hei0 : 0 < ei := by omega
  have hei1 : ei ≤ 1048576 := by omega
  rw [hei]
  have HEI := Lib.hid hei; clear hei
  have hsm := h.small
  go_enter Tryz.func190, Tryz.ntmps190
  go_upto_region 1 with fail
  obtain ⟨W, hW, hB, hbx, hrx, hz⟩ := boxes1 w nb ao n cap
  rw [← hW]
  clear hW
  have h1 := h.below hB
  generalize hBe : w.heap.size = B at *
  have HBe := Lib.hid hBe; clear hBe
  have k0 := hbx.c0
  have k1 := hbx.c1
  go_wp2_with fail
  refine (refNorm_any nb ao n cap x W h1).mono ?_
  rintro r w1 ⟨nr, ro, k, rc, rfl, hs1, hk, hw1⟩
  have a1 := hbx.below hw1
  have b1 := hrx.below hw1
  have hB1 := bnext hB (by omega) hw1
  have ho := only_set2 w1 B (.bool nr) (.slice ro k rc)
  have a2 := a1.stored nr ro k rc
  have b2 := b1.only ho (by omega)
  have hn2 : Bn ((w1.setCell ⟨B, 0, none⟩ (.bool nr)).setCell ⟨B, 1, none⟩ (.slice ro k rc)) nr ro k rc x := ⟨hs1.neg, hs1.sl.only_box a1 ho⟩
  have hB2 := hB1.1.trans (ho.below (Nat.le_refl B))
  have hz2 : B + 2 ≤ ((w1.setCell ⟨B, 0, none⟩ (.bool nr)).setCell ⟨B, 1, none⟩ (.slice ro k rc)).heap.size := by rw [ho.size]; have := hw1.size; omega
  have k0 := a1.c0
  have k1 := a1.c1
  have k2 := a1.f 0
  have k3 := a1.f 1
  go_upto_region 2 with fail
  clear k0 k1 k2 k3 a1 b1 ho hw1 hbx hrx hs1
  generalize (w1.setCell ⟨B, 0, none⟩ (.bool nr)).setCell ⟨B, 1, none⟩ (.slice ro k rc) = V at *
  have hneg : nr = false := by rw [hn2.neg]; simp; omega
  subst hneg
  have k0 := a2.c0
  have k1 := a2.c1
  have HN := Lib.hid hn2
  have hsl := hn2.sl
  clear hn2
  have hcall := refShr_num x.natAbs e ro k rc V hsl (by omega) (by omega)
  rw [HEI.out] at hcall
  have HC := Lib.hid hcall; clear hcall hsl
  go_wp2_with fail
  refine HC.out.mono ?_
  rintro r w3 ⟨so, l, sc, L, rfl, hL, hnum, hl, hw3⟩
  have b3 := b2.below hw3
  have a3 := a2.below hw3
  have hB3 := bnext hB2 (by omega) hw3
  have k0 := a3.c0
  have k1 := a3.c1
  have HNUM := Lib.hid hnum; clear hnum
  generalize decide (x.natAbs % 2 ^ e ≠ 0) = lost
  go_wp2_with fail
  refine (make1_any false so l sc L w3 hL).mono ?_
  rintro r w4 ⟨mr, mo, j, mc, rfl, hm4, hj, hw4⟩
  have b4 := b3.below hw4
  have a4 := a3.below hw4
  have hB4 := bnext hB3.1 hB3.2 hw4
  clear k0 k1 HC a2 a3 b2 b3 hL
  go_upto_region 6 with fail
  obtain ⟨Z, hZ, hZB, c5, hz5⟩ := box_new w4 mr mo j mc
  rw [← hZ]
  clear hZ
  have b5 := b4.below hZB
  have a5 := a4.below hZB
  have hm5 := hm4.below hZB
  obtain ⟨hB5, hB5'⟩ := bnext hB4.1 hB4.2 hZB
  have k0 := a5.c0
  have k1 := a5.c1
  have l0 := c5.c0
  have l1 := c5.c1
  have q0 := b5.c0
  have q1 := b5.c1
  have q2 := b5.f 0
  have q3 := b5.f 1
  have z3 := b5.stored mr mo j mc
  have z0 := z3.c0
  have z1 := z3.c1
  have hres : Bn ((Z.setCell ⟨B + 1, 0, none⟩ (.bool mr)).setCell ⟨B + 1, 1, none⟩ (.slice mo j mc)) mr mo j mc (x / 2 ^ e) := by
    refine bn_num (nb := false) (a := x.natAbs / 2 ^ e) ⟨hm5.neg, hm5.sl.only_box b5 (only_set2 _ _ _ _)⟩ HNUM.out ?_
    rw [if_neg (by decide), Int.natCast_ediv, Int.natCast_pow, Int.natAbs_of_nonneg h0]; rfl
  have hbl := hB5.trans ((only_set2 Z (B + 1) (.bool mr) (.slice mo j mc)).below (Nat.le_succ B))
  have HRES := Lib.hid hres; clear hres
  go_wp2
  refine bodyPost_ret (v := .agg #[.bool mr, .slice mo j mc]) (by simp [results, Tryz.results190, go_sem, z0, z1]) rfl ⟨_, mo, j, mc, rfl, HRES.out, by omega, ?_⟩
  show Below _ _ _
  rw [HBe.out]; exact hbl

set_option maxRecDepth 100000 in
set_option maxHeartbeats 4000000 in
/-- a shift up -/
theorem refShift_up (nb : Bool) (ao : Option Addr) (n cap : Nat) (x : Int) (e : Nat) (w : World) (h : Bg w nb ao n cap x) (he : e ≤ 1048576) :
    Calls Tryz.prog 190 #[.agg #[.bool nb, .slice ao n cap], .int .i64 (e : Int)] w fun r w' => ∃ nr ro k cr, r = .returned (.agg #[.bool nr, .slice ro k cr]) ∧ Bn w' nr ro k cr (x * 2 ^ e) ∧ k ≤ e / 32 + n + 1 ∧ Ext w w' := by
  obtain ⟨ei, hei⟩ : ∃ ei : Int, (e : Int) = ei := ⟨_, rfl⟩
  have hei0 : 0 ≤ ei := by omega
  have hei1 : ei ≤ 1048576 := by omega
  rw [hei]
  have HEI := Lib.hid hei; clear hei
  have hsm := h.small
  go_enter Tryz.func190, Tryz.ntmps190
  go_upto_region 1 with fail
  obtain ⟨W, hW, hB, hbx, hrx, hz⟩ := boxes1 w nb ao n cap
  rw [← hW]
  clear hW
  have h1 := h.below hB
  generalize hBe : w.heap.size = B at *
  have HBe := Lib.hid hBe; clear hBe
  have k0 := hbx.c0
  have k1 := hbx.c1
  go_wp2_with fail
  refine (refNorm_any nb ao n cap x W h1).mono ?_
  rintro r w1 ⟨nr, ro, k, rc, rfl, hs1, hk, hw1⟩
  have a1 := hbx.below hw1
  have b1 := hrx.below hw1
  have hB1 := bnext hB (by omega) hw1
  have ho := only_set2 w1 B (.bool nr) (.slice ro k rc)
  have a2 := a1.stored nr ro k rc
  have b2 := b1.only ho (by omega)
  have hn2 : Bn ((w1.setCell ⟨B, 0, none⟩ (.bool nr)).setCell ⟨B, 1, none⟩ (.slice ro k rc)) nr ro k rc x := ⟨hs1.neg, hs1.sl.only_box a1 ho⟩
  have hB2 := hB1.1.trans (ho.below (Nat.le_refl B))
  have hz2 : B + 2 ≤ ((w1.setCell ⟨B, 0, none⟩ (.bool nr)).setCell ⟨B, 1, none⟩ (.slice ro k rc)).heap.size := by rw [ho.size]; have := hw1.size; omega
  have k0 := a1.c0
  have k1 := a1.c1
  have k2 := a1.f 0
  have k3 := a1.f 1
  go_upto_region 2 with fail
  clear k0 k1 k2 k3 a1 b1 ho hw1 hbx hrx hs1
  generalize (w1.setCell ⟨B, 0, none⟩ (.bool nr)).setCell ⟨B, 1, none⟩ (.slice ro k rc) = V at *
  have k0 := a2.c0
  have k1 := a2.c1
  have HN := Lib.hid hn2
  have hsl := hn2.sl
  clear hn2
  have hcall : ∀ wx, Ext V wx → Calls Tryz.prog 228 #[.slice ro k rc, .int .i64 (e : Int)] wx fun r w' => ∃ ro l cr L, r = .returned (.slice ro l cr) ∧ Sl w' ro l cr L ∧ num L = ((x.natAbs * 2 ^ e : Nat) : Int) ∧ l = e / 32 + k + 1 ∧ Ext wx w' :=
    fun wx hx => refShl_num x.natAbs e ro k rc wx (hsl.below hx) (by omega) (by omega)
  rw [HEI.out] at hcall
  have HC := Lib.hid hcall; clear hcall hsl
  have HA := Lib.hid a2
  have HB := Lib.hid b2
  have q0 := b2.c0
  have q1 := b2.c1
  have q2 := b2.f 0
  have q3 := b2.f 1
  clear a2 b2
  go_wp2_with fail
  go_region_with (first
    | (go_at_call 228; refine (HC.out _ (by exact (Below.refl _ _).drew)).mono ?_; rintro r w3 ⟨so, l, sc, L, rfl, hL, hnum, hl, hw3⟩; have HNUM := Lib.hid hnum; have HLL := Lib.hid hl; clear hnum hl; have hw3 : Ext V w3 := Ext.trans (by exact (Below.refl _ _).drew) hw3; have b3 := HB.out.below hw3; have a3 := HA.out.below hw3; have p0 := a3.c0; have p1 := a3.c1; have g0 := b3.f 0; have g1 := b3.f 1)
    | (go_at_call 193; refine (make1_any nr so l sc L w3 hL).mono ?_; rintro r w4 ⟨mr, mo, j, mc, rfl, hm4, hj, hw4⟩; have b4 := b3.below hw4; have e0 := b4.c0; have e1 := b4.c1; have f0 := b4.f 0; have f1 := b4.f 1))
  all_goals
    clear k0 k1 q0 q1 q2 q3 p0 p1 g0 g1
    have z3 := b4.stored mr mo j mc
    have z0 := z3.c0
    have z1 := z3.c1
    have hres : Bn ((w4.setCell ⟨B + 1, 0, none⟩ (.bool mr)).setCell ⟨B + 1, 1, none⟩ (.slice mo j mc)) mr mo j mc (x * 2 ^ e) := by
      refine bn_num (nb := nr) (a := x.natAbs * 2 ^ e) ⟨hm4.neg, hm4.sl.only_box b4 (only_set2 _ _ _ _)⟩ HNUM.out ?_
      have h5 := HN.out.neg
      rw [Int.natCast_mul, Int.natCast_pow]
      by_cases hx : x < 0
      · rw [h5, decide_eq_true hx, if_pos rfl, ← Int.neg_mul]
        congr 1
        omega
      · rw [h5, decide_eq_false hx, if_neg (by decide)]
        congr 1
        omega
    have hB3 := bnext hB2 (by omega) hw3
    have hbl := (hB3.1.trans (hw4.mono hB3.2)).trans ((only_set2 w4 (B + 1) (.bool mr) (.slice mo j mc)).below (Nat.le_succ B))
    have HRES := Lib.hid hres; clear hres
    have HBL := Lib.hid hbl; clear hbl
    go_wp2
    refine bodyPost_ret (v := .agg #[.bool mr, .slice mo j mc]) (by simp [results, Tryz.results190, go_sem, z0, z1]) rfl ⟨_, mo, j, mc, rfl, HRES.out, by have := HLL.out; omega, ?_⟩
    show Below _ _ _
    rw [HBe.out]; exact HBL.out
end Go.Proofs.YtekocoklfnojmaaGreatDoor

namespace Go.Proofs.YtekocoklfnojmaaGreatDoor
open Go.RowKit

theorem Dn.num {w : World} {bb nb : Bool} {ao : Option Addr} {n ca : Nat} {f : Int} {d : Dy} (h : Dn w (.agg #[.bool bb, .bool nb, .slice ao n ca, .int .i64 f]) d) : bb = d.isNone ∧ f = dx d ∧ Bn w nb ao n ca (dm d) := h.get

end Go.Proofs.YtekocoklfnojmaaGreatDoor

namespace Go.Proofs.YtekocoklfnojmaaGreatDoor
open Go.RowKit

theorem dn_lit {w : World} {nb : Bool} {ao : Option Addr} {n ca : Nat} {m f : Int} (h : Bn w nb ao n ca m) (h0 : Nd (some (m, f))) : Dn w (.agg #[.bool false, .bool nb, .slice ao n ca, .int .i64 f]) (some (m, f)) := ⟨h0, nb, ao, n, ca, rfl, h⟩

end Go.Proofs.YtekocoklfnojmaaGreatDoor
