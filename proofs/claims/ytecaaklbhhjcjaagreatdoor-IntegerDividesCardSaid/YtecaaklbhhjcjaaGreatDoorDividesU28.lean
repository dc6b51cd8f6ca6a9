import Derived.Test.YtecaaklbhhjcjaaGreatDoorDividesU21
import Derived.Test.YtecaaklbhhjcjaaGreatDoorDividesU22
import Derived.Test.YtecaaklbhhjcjaaGreatDoorDividesU2
import Derived.Test.YtecaaklbhhjcjaaGreatDoorDividesU5
import Derived.Deep.QuietTactic
import Derived.BigQuiet
import Derived.Test.YtecaaklbhhjcjaaGreatDoorDividesU26
import Derived.Test.YtecaaklbhhjcjaaGreatDoorDividesU17
import Derived.Shelf.Spec.TrailingZeros
import Derived.Test.YtecaaklbhhjcjaaGreatDoorDividesU23
import Derived.Test.YtecaaklbhhjcjaaGreatDoorDividesU11
import Derived.Test.YtecaaklbhhjcjaaGreatDoorDividesU9
import Derived.Deep.RegionWith
import Derived.Deep.CutRange
import Derived.Test.YtecaaklbhhjcjaaGreatDoorDividesU0
import Derived.Laws.Bits64b
import Derived.WalkKit
namespace Go.Proofs.YtecaaklbhhjcjaaGreatDoor
open Go.RowKit

set_option maxRecDepth 100000 in
set_option maxHeartbeats 1000000 in
theorem refCmpMag_any (a b : Nat) (ao bo : Option Addr) (n m ca cb : Nat) (w : World) (ha : Sl w ao n ca (limbs a)) (hb : Sl w bo m cb (limbs b)) :
    Calls Tryz.prog 139 #[.slice ao n ca, .slice bo m cb] w fun e w' => e = .returned (.int .i64 (sgn3 a b)) ∧ ∃ q, w' = w.drewN q := by
  have hna := ha.big
  have hnb := hb.big
  by_cases hnm : n = m
  · subst hnm
    have h0 : ((n : Int) != n) = false := by simp
    go_enter Tryz.func139, Tryz.ntmps139
    go_wp2
    go_loopw [5] (fun i wr => ∃ k q : Nat, k ≤ n ∧ i = .int .i64 ((k : Int) - 1) ∧ (limbs a).drop k = (limbs b).drop k ∧ wr = w.drewN q) (fun i _ => (intOf i + 1).toNat)
    case atStart => exact ⟨n, 0, Nat.le_refl _, rfl, by rw [List.drop_eq_nil_of_le (by rw [ha.len]; exact Nat.le_refl _), List.drop_eq_nil_of_le (by rw [hb.len]; exact Nat.le_refl _)], rfl⟩
    case round =>
      obtain ⟨k, q, hk, rfl, hd, hw⟩ := hrel
      have HD := Lib.hid hd; clear hd
      subst hw
      by_cases hlt : 0 < k
      · obtain ⟨j, rfl⟩ : ∃ j, k = j + 1 := ⟨k - 1, by omega⟩
        obtain ⟨ba, oa, rfl, hca⟩ := ha.cells (by rw [ha.len]; omega)
        obtain ⟨bb, ob, rfl, hcb⟩ := hb.cells (by rw [hb.len]; omega)
        have c1 := hca j (by rw [ha.len]; omega)
        have c2 := hcb j (by rw [hb.len]; omega)
        clear hca hcb
        obtain ⟨x, hx⟩ : ∃ x, (limbs a).getD j 0 = x := ⟨_, rfl⟩
        obtain ⟨y, hy⟩ : ∃ y, (limbs b).getD j 0 = y := ⟨_, rfl⟩
        rw [hx] at c1
        rw [hy] at c2
        have HX := Lib.hid hx; clear hx
        have HY := Lib.hid hy; clear hy
        have ej : ((j + 1 : Nat) : Int) - 1 = (j : Int) := by omega
        rw [ej]
        clear ej
        by_cases hxy : x = y
        · subst hxy
          have hxx : (x != x) = false := by simp
          go_wp2
          go_quiet (fail)
          go_wp2
          go_roundw
          case rel => exact ⟨j, q + nq, by omega, by go_num, drop_eq_cons (by rw [ha.len]; omega) (by rw [hb.len]; omega) HD.out (by rw [HX.out, HY.out]), by simp [World.drewN]⟩
          case measure => simp [intOf] <;> omega
        · have hxx : (x != y) = true := by simp [hxy]
          have hs := sgn3_limb (a := a) (b := b) (by rw [ha.len, hb.len]) j (by rw [ha.len]; omega) HD.out (by rw [HX.out, HY.out]; exact hxy)
          rw [HX.out, HY.out] at hs
          have HS := Lib.hid hs; clear hs
          by_cases hlt2 : x < y
          · have hs2 : sgn3 x y = -1 := by simp [sgn3, hlt2]
            have HS2 := Lib.hid hs2; clear hs2
            clear hxy
            go_wp2
            go_quiet (fail)
            go_wp2
            go_quiet (fail)
            go_wp2
            go_ret
            exact ⟨by rw [← HS.out, HS2.out]; rfl, _, by rw [World.drewN_drewN, World.drewN_drewN]⟩
          · have hs2 : sgn3 x y = 1 := by unfold sgn3; rw [if_neg hlt2, if_pos (by omega)]
            have HS2 := Lib.hid hs2; clear hs2
            clear hxy
            go_wp2
            go_quiet (fail)
            go_wp2
            go_quiet (fail)
            go_wp2
            go_ret
            exact ⟨by rw [← HS.out, HS2.out]; rfl, _, by rw [World.drewN_drewN, World.drewN_drewN]⟩
      · obtain rfl : k = 0 := by omega
        clear ha hb
        go_wp2
        go_ret
        refine ⟨?_, q, rfl⟩
        have hd := HD.out
        rw [List.drop_zero, List.drop_zero] at hd
        obtain rfl := limbs_inj hd
        simp [sgn3]
  · have h0 : ((n : Int) != m) = true := by simp; omega
    have hs := sgn3_lens (a := a) (b := b) (by rw [ha.len, hb.len]; exact hnm)
    rw [ha.len, hb.len] at hs
    have HS := Lib.hid hs; clear hs
    by_cases hlt : n < m
    · have hs2 : sgn3 (n : Int) m = -1 := by unfold sgn3; rw [if_pos (by omega)]
      have HS2 := Lib.hid hs2; clear hs2
      go_enter Tryz.func139, Tryz.ntmps139
      go_wp2
      go_ret
      exact ⟨by rw [← HS.out, HS2.out]; rfl, 0, rfl⟩
    · have hs2 : sgn3 (n : Int) m = 1 := by unfold sgn3; rw [if_neg (by omega), if_pos (by omega)]
      have HS2 := Lib.hid hs2; clear hs2
      go_enter Tryz.func139, Tryz.ntmps139
      go_wp2
      go_ret
      exact ⟨by rw [← HS.out, HS2.out]; rfl, 0, rfl⟩
end Go.Proofs.YtecaaklbhhjcjaaGreatDoor

namespace Go.Proofs.YtecaaklbhhjcjaaGreatDoor
open Go.RowKit

theorem bn_abs {w : World} {nr : Bool} {ro : Option Addr} {k rc : Nat} {zs : List Int} {x : Int} {nb : Bool} (hx : x = sgd nb zs) (hz : Wf zs) (h : Bn w nr ro k rc (sgd false zs)) : Bn w nr ro k rc x.natAbs := by
  have e : (x.natAbs : Int) = sgd false zs := by
    rw [hx, sgd_natAbs hz, Int.toNat_of_nonneg (num_nonneg hz)]; rfl
  rw [e]; exact h

set_option maxRecDepth 100000 in
set_option maxHeartbeats 1000000 in
theorem refAbs_any (nb : Bool) (ao : Option Addr) (n cap : Nat) (x : Int) (w : World) (h : Bg w nb ao n cap x) :
    Calls Tryz.prog 65 #[.agg #[.bool nb, .slice ao n cap]] w fun e w' => ∃ nr ro k cr, e = .returned (.agg #[.bool nr, .slice ro k cr]) ∧ Bn w' nr ro k cr x.natAbs ∧ k ≤ n ∧ Below w.heap.size w w' := by
  obtain ⟨⟨zs, hs, hx⟩, hsm⟩ := h
  have HX := Lib.hid hx; clear hx
  go_enter Tryz.func65, Tryz.ntmps65
  go_wp2_with fail
  obtain ⟨W, hW, hB, hbx, hrx, hz⟩ := boxes1 w nb ao n cap
  rw [← hW]
  clear hW
  have hs0 := hs.below hB
  generalize hBe : w.heap.size = B at *
  have HBe := Lib.hid hBe; clear hBe
  have k0 := hbx.c0
  have k1 := hbx.c1
  go_wp2_with fail
  refine (make1_any false ao n cap zs W hs0).mono ?_
  rintro e w1 ⟨nr, ro, k, rc, rfl, hs1, hk, hw1⟩
  have b1 := hrx.below hw1
  obtain ⟨h1, z1⟩ := bnext hB (by omega) hw1
  have q0 := b1.c0
  have q1 := b1.c1
  have q2 := b1.f 0
  have q3 := b1.f 1
  have hst := b1.stored nr ro k rc
  have u0 := hst.c0
  have u1 := hst.c1
  have hres : Bn ((w1.setCell ⟨B + 1, 0, none⟩ (.bool nr)).setCell ⟨B + 1, 1, none⟩ (.slice ro k rc)) nr ro k rc x.natAbs := bn_abs HX.out hs.wf ⟨hs1.neg, hs1.sl.only_box b1 (only_set2 _ _ _ _)⟩
  have hbl := h1.trans ((only_set2 w1 (B + 1) (.bool nr) (.slice ro k rc)).below (Nat.le_succ B))
  have HRES := Lib.hid hres; clear hres
  go_wp2
  refine bodyPost_ret (v := .agg #[.bool nr, .slice ro k rc]) (by simp [results, Tryz.results65, go_sem, u0, u1]) rfl ⟨_, ro, k, rc, rfl, HRES.out, hk, ?_⟩
  rw [HBe.out]; exact hbl

/-- a magnitude shifted down -/
theorem refShr_num (a e : Nat) (ao : Option Addr) (n ca : Nat) (w : World) (ha : Sl w ao n ca (limbs a)) (hn : n ≤ 1000000000) (he : e ≤ 30000000000) :
    Calls Tryz.prog 142 #[.slice ao n ca, .int .i64 (e : Int)] w fun r w' => ∃ ro l cr L, r = .returned (.tuple #[.slice ro l cr, .bool (decide (a % 2 ^ e ≠ 0))]) ∧ Sl w' ro l cr L ∧ num L = ((a / 2 ^ e : Nat) : Int) ∧ l ≤ n ∧ Ext w w' := by
  have h := refShr_any (limbs a) (e / 32) (e % 32) ao n ca w ha (by omega) hn (by omega)
  have e1 : e / 32 * 32 + e % 32 = e := by omega
  rw [e1] at h
  refine h.mono fun r w' ⟨ro, l, cr, hr, hsl, hw⟩ => ⟨ro, l, cr, _, ?_, hsl, ?_, ?_, hw⟩
  · rw [hr, num_limbs]
    have e3 : ((a : Int) % 2 ^ e ≠ 0) ↔ (a % 2 ^ e ≠ 0) := by
      have : (a : Int) % 2 ^ e = ((a % 2 ^ e : Nat) : Int) := by rw [Int.natCast_emod, Int.natCast_pow]; rfl
      rw [this]; omega
    rw [decide_eq_decide.2 e3]
  · rw [num_shr (by omega)]
    by_cases hs : e / 32 ≤ n
    · rw [num_drop_div (Wf.limbs a) _ (by rw [ha.len]; exact hs), num_limbs]
      conv => rhs; rw [← e1, pow32, ← Nat.div_div_eq_div_mul, Int.natCast_ediv, Int.natCast_ediv, Int.natCast_pow, Int.natCast_pow]
      rfl
    · rw [List.drop_eq_nil_of_le (by rw [ha.len]; omega)]
      have h1 := (limbs_len_le a n).1 (by rw [ha.len]; exact Nat.le_refl _)
      have h2 : a < 2 ^ e := by
        have h3 : 4294967296 ^ n ≤ 2 ^ e := by
          rw [← e1, pow32]
          have := pow_le' (show n ≤ e / 32 by omega)
          exact Nat.le_trans this (Nat.le_mul_of_pos_right _ (Nat.pow_pos (by omega)))
        omega
      rw [Nat.div_eq_of_lt h2]
      simp [num]
  · have := hsl.len
    rw [shr_length, List.length_drop, ha.len] at this
    omega

end Go.Proofs.YtecaaklbhhjcjaaGreatDoor

namespace Go.Proofs.YtecaaklbhhjcjaaGreatDoor

def fmag (f : Nat) : Nat := f % 9223372036854775808
def ffld (f : Nat) : Nat := fmag f / 4503599627370496
/-- the significand -/
def sig (f : Nat) : Nat := if ffld f = 0 then fmag f else fmag f % 4503599627370496 + 4503599627370496
/-- the exponent of the last place, above the least one -/
def fsh (f : Nat) : Nat := ffld f - 1
/-- the absolute value in units of the least float -/
def fz (f : Nat) : Nat := sig f * 2 ^ fsh f
end Go.Proofs.YtecaaklbhhjcjaaGreatDoor

namespace Go.Proofs.YtecaaklbhhjcjaaGreatDoor

theorem or_add {a b k : Nat} (hb : b < 2 ^ k) (h : a * 2 ^ k + b < 18446744073709551616) : bits BinOp.or IntKind.u64 ((a * 2 ^ k : Nat) : Int) (b : Int) = ((a * 2 ^ k + b : Nat) : Int) := by
  rw [bits_or_u64_nat _ _ (by omega) (by omega), Nat.mul_comm a, Nat.two_pow_add_eq_or_of_lt hb]

end Go.Proofs.YtecaaklbhhjcjaaGreatDoor
