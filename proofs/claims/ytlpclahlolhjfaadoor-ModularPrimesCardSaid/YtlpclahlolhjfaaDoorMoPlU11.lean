import Derived.Test.YtlpclahlolhjfaaDoorMoPlU3
import Derived.Deep.QuietTactic
import Derived.BigQuiet
namespace Go.Proofs.YtlpclahlolhjfaaDoor
open Go.RowKit

set_option maxRecDepth 100000 in
set_option maxHeartbeats 400000 in
theorem cmpInt_any (x y : Int) (w : World) : Calls Tryd.prog 47 #[.int .i64 x, .int .i64 y] w fun e w' => e = .returned (.int .i64 (sgn3 x y)) ∧ w = w' := by
  have hx : (x != x) = false := by simp
  have hy : (y != y) = false := by simp
  by_cases h1 : x < y
  · have e : sgn3 x y = -1 := by simp [sgn3, h1]
    have E := Lib.hid e; clear e
    go_enter Tryd.func47, Tryd.ntmps47
    go_wp2_with go_in
    go_ret
    exact ⟨by rw [E.out]; rfl, rfl⟩
  · by_cases h2 : y < x
    · have e : sgn3 x y = 1 := by simp [sgn3, h1, h2]
      have E := Lib.hid e; clear e
      go_enter Tryd.func47, Tryd.ntmps47
      go_wp2_with go_in
      go_ret
      exact ⟨by rw [E.out]; rfl, rfl⟩
    · have e : sgn3 x y = 0 := by simp [sgn3, h1, h2]
      have E := Lib.hid e; clear e
      go_enter Tryd.func47, Tryd.ntmps47
      go_wp2_with go_in
      go_ret
      exact ⟨by rw [E.out]; rfl, rfl⟩

set_option maxRecDepth 100000 in
set_option maxHeartbeats 400000 in
theorem cmpU32_any (x y : Int) (w : World) : Calls Tryd.prog 67 #[.int .u32 x, .int .u32 y] w fun e w' => e = .returned (.int .i64 (sgn3 x y)) ∧ w = w' := by
  have hx : (x != x) = false := by simp
  have hy : (y != y) = false := by simp
  by_cases h1 : x < y
  · have e : sgn3 x y = -1 := by simp [sgn3, h1]
    have E := Lib.hid e; clear e
    go_enter Tryd.func67, Tryd.ntmps67
    go_wp2_with go_in
    go_ret
    exact ⟨by rw [E.out]; rfl, rfl⟩
  · by_cases h2 : y < x
    · have e : sgn3 x y = 1 := by simp [sgn3, h1, h2]
      have E := Lib.hid e; clear e
      go_enter Tryd.func67, Tryd.ntmps67
      go_wp2_with go_in
      go_ret
      exact ⟨by rw [E.out]; rfl, rfl⟩
    · have e : sgn3 x y = 0 := by simp [sgn3, h1, h2]
      have E := Lib.hid e; clear e
      go_enter Tryd.func67, Tryd.ntmps67
      go_wp2_with go_in
      go_ret
      exact ⟨by rw [E.out]; rfl, rfl⟩

set_option maxRecDepth 100000 in
set_option maxHeartbeats 1000000 in
theorem compare_any (a b : Nat) (ao bo : Option Addr) (n m ca cb : Nat) (w : World) (ha : Sl w ao n ca (limbs a)) (hb : Sl w bo m cb (limbs b)) :
    Calls Tryd.prog 48 #[.slice ao n ca, .slice bo m cb] w fun e w' => e = .returned (.int .i64 (sgn3 a b)) ∧ ∃ q, w' = w.drewN q := by
  have hna := ha.big
  have hnb := hb.big
  by_cases hnm : n = m
  · subst hnm
    have h0 : ((n : Int) != n) = false := by simp
    go_enter Tryd.func48, Tryd.ntmps48
    go_wp2
    go_loopw [5] (fun i wr => ∃ k q : Nat, k ≤ n ∧ i = .int .i64 ((k : Int) - 1) ∧ (limbs a).drop k = (limbs b).drop k ∧ wr = w.drewN q) (fun i _ => (intOf i + 1).toNat)
    case atStart => exact ⟨n, 0, Nat.le_refl _, rfl, by rw [List.drop_eq_nil_of_le (by rw [ha.len]; exact Nat.le_refl _), List.drop_eq_nil_of_le (by rw [hb.len]; exact Nat.le_refl _)], rfl⟩
    case round =>
      obtain ⟨k, q, hk, rfl, hd, hw⟩ := hrel
      have HD := Lib.hid hd; clear hd
      subst hw
      by_cases hlt : 0 < k
      · obtain ⟨j, rfl⟩ : ∃ j, k = j + 1 := ⟨k - 1, by omega⟩
        obtain ⟨ba, oa, rfl, hca⟩ := ha.cells (by rw [ha.len]; omega)
        obtain ⟨bb, ob, rfl, hcb⟩ := hb.cells (by rw [hb.len]; omega)
        have c1 := hca j (by rw [ha.len]; omega)
        have c2 := hcb j (by rw [hb.len]; omega)
        clear hca hcb
        obtain ⟨x, hx⟩ : ∃ x, (limbs a).getD j 0 = x := ⟨_, rfl⟩
        obtain ⟨y, hy⟩ : ∃ y, (limbs b).getD j 0 = y := ⟨_, rfl⟩
        rw [hx] at c1
        rw [hy] at c2
        have HX := Lib.hid hx; clear hx
        have HY := Lib.hid hy; clear hy
        have ej : ((j + 1 : Nat) : Int) - 1 = (j : Int) := by omega
        rw [ej]
        clear ej
        by_cases hxy : x = y
        · subst hxy
          have hxx : (x != x) = false := by simp
          go_wp2
          go_quiet (fail)
          go_wp2
          go_roundw
          case rel => exact ⟨j, q + nq, by omega, by go_num, drop_eq_cons (by rw [ha.len]; omega) (by rw [hb.len]; omega) HD.out (by rw [HX.out, HY.out]), by simp [World.drewN]⟩
          case measure => simp [intOf] <;> omega
        · have hxx : (x != y) = true := by simp [hxy]
          have HN := Lib.hid hxy; clear hxy
          go_wp2
          go_quiet (fail)
          go_wp2
          go_quiet ((go_at_call 67; exact quiet_add_left (cmpU32_any _ _ _)))
          go_wp2
          go_ret
          refine ⟨?_, _, by rw [World.drewN_drewN, World.drewN_drewN]⟩
          have := sgn3_limb (a := a) (b := b) (by rw [ha.len, hb.len]) j (by rw [ha.len]; omega) HD.out (by rw [HX.out, HY.out]; exact HN.out)
          rw [HX.out, HY.out] at this
          rw [← this]; rfl
      · obtain rfl : k = 0 := by omega
        clear ha hb
        go_wp2
        go_ret
        refine ⟨?_, q, rfl⟩
        have hd := HD.out
        rw [List.drop_zero, List.drop_zero] at hd
        obtain rfl := limbs_inj hd
        simp [sgn3]
  · have h0 : ((n : Int) != m) = true := by simp; omega
    go_enter Tryd.func48, Tryd.ntmps48
    go_wp2_with (go_at_call 47; refine (cmpInt_any _ _ _).mono ?_; rintro e w' ⟨rfl, rfl⟩)
    go_ret
    refine ⟨?_, 0, rfl⟩
    have := sgn3_lens (a := a) (b := b) (by rw [ha.len, hb.len]; exact hnm)
    rw [ha.len, hb.len] at this
    rw [← this]; rfl
end Go.Proofs.YtlpclahlolhjfaaDoor

namespace Go.Proofs.YtlpclahlolhjfaaDoor
open Go.RowKit

set_option maxRecDepth 100000 in
set_option maxHeartbeats 1000000 in
theorem addTo_any (g n cap m cb : Nat) (bo : Option Addr) (L ys : List Int) (w : World) (hL : Blk w g L) (hl : L.length = n) (hw : Wf L) (hn : n ≤ 1099511627776)
    (hbl : ys.length = m) (hbw : Wf ys) (hmn : m ≤ n) (hst : Stay g w bo ys) (hfit : num L + num ys < 4294967296 ^ n) :
    Calls Tryd.prog 68 #[.slice (some ⟨g, 0, none⟩) n cap, .slice bo m cb] w fun e w' => e = .returned (.tuple #[]) ∧ ∃ L', Blk w' g L' ∧ L'.length = n ∧ Wf L' ∧ num L' = num L + num ys ∧ Only g w w' := by
  have HL := Lib.hid hl; clear hl
  have HB := Lib.hid hbl; clear hbl
  have HF := Lib.hid hfit; clear hfit
  go_enter Tryd.func68, Tryd.ntmps68
  go_wp2
  go_loopw [4, 5, 6, 10] (fun c i x j wr => ∃ (k : Nat) (cc : Int) (Lk : List Int), k ≤ m ∧ j = .int .i64 k ∧ c = .int .u64 cc ∧ 0 ≤ cc ∧ cc ≤ 1 ∧ Added L Lk k cc (num (ys.take k)) ∧ Blk wr g Lk ∧ Only g w wr)
    (fun _ _ _ j _ => m - (intOf j).toNat)
  case atStart => exact ⟨0, 0, L, Nat.zero_le _, rfl, rfl, by omega, by omega, Added.start hw, hL, Only.refl g w⟩
  case round =>
    obtain ⟨k, cc, Lk, hk, rfl, rfl, hc0, hc1, hA, hbk, ho⟩ := hrel
    by_cases hlt : k < m
    · obtain ⟨bb, ob, rfl, hcb⟩ := hst _ ho (by rw [HB.out]; omega)
      have c1 := hcb k (by rw [HB.out]; omega)
      clear hcb
      have c2 := hbk.cell k (by rw [hA.1, HL.out]; omega)
      have c3 := hbk.frozen k
      rw [getD_of_drop hA.2.2.1] at c2
      have hxr := hw.getD k
      have hyr := hbw.getD k
      obtain ⟨x, hx⟩ : ∃ x, L.getD k 0 = x := ⟨_, rfl⟩
      obtain ⟨y, hy⟩ : ∃ y, ys.getD k 0 = y := ⟨_, rfl⟩
      rw [hx] at c2 hxr
      rw [hy] at c1 hyr
      have HX := Lib.hid hx; clear hx
      have HY := Lib.hid hy; clear hy
      obtain ⟨x0, x1⟩ := hxr
      obtain ⟨y0, y1⟩ := hyr
      go_wp2
      go_roundw
      case rel =>
        have st := hA.step (by rw [HL.out]; omega) y (cc + (x + y)) (by rw [HX.out])
        rw [← HY.out, ← num_take_succ ys k (by rw [HB.out]; exact hlt), HY.out] at st
        exact ⟨k + 1, _, _, by omega, by go_num, rfl, by omega, by omega, st, hbk.set _ _, ho.setCell _ _⟩
      case measure => simp [intOf] <;> omega
    · obtain rfl : k = m := by omega
      have HA := Lib.hid hA; clear hA
      go_wp2
      go_loopw [4, 7] (fun c j wr => ∃ (k : Nat) (cc : Int) (Lk : List Int), k ≤ n ∧ j = .int .i64 k ∧ c = .int .u64 cc ∧ 0 ≤ cc ∧ cc ≤ 1 ∧ Added L Lk k cc (num ys) ∧ Blk wr g Lk ∧ Only g w wr)
        (fun c j _ => (n - (intOf j).toNat) + (intOf c).toNat)
      case atStart =>
        have := HA.out
        rw [List.take_of_length_le (by rw [HB.out]; exact Nat.le_refl _)] at this
        exact ⟨k, cc, Lk, by omega, rfl, rfl, hc0, hc1, this, hbk, ho⟩
      case round =>
        obtain ⟨i, cc, Li, hi, rfl, rfl, hc0, hc1, hA, hbk, ho⟩ := hrel
        by_cases hcc : 0 < cc
        · have hin : i < n := by have := hA.fits (by rw [HL.out]; exact hi) (by rw [HL.out]; exact HF.out) hcc; rw [HL.out] at this; exact this
          have c2 := hbk.cell i (by rw [hA.1, HL.out]; omega)
          have c3 := hbk.frozen i
          rw [getD_of_drop hA.2.2.1] at c2
          have hxr := hw.getD i
          obtain ⟨x, hx⟩ : ∃ x, L.getD i 0 = x := ⟨_, rfl⟩
          rw [hx] at c2 hxr
          have HX := Lib.hid hx; clear hx
          obtain ⟨x0, x1⟩ := hxr
          by_cases hx9 : x = 4294967295
          · subst hx9
            go_wp2
            go_roundw
            case rel =>
              have st := hA.step (by rw [HL.out]; omega) 0 4294967296 (by rw [HX.out]; omega)
              have e1 : (4294967296 : Int) % 4294967296 = 0 := by omega
              have e2 : (4294967296 : Int) / 4294967296 = cc := by omega
              rw [e1, e2, Int.mul_zero, Int.add_zero] at st
              exact ⟨i + 1, _, _, by omega, by go_num, rfl, hc0, hc1, st, hbk.set _ _, ho.setCell _ _⟩
            case measure => simp [intOf] <;> omega
          · have h9 : (x + 1 != 0) = true := by simp; omega
            go_wp2
            go_roundw
            case rel =>
              have st := hA.step (by rw [HL.out]; omega) 0 (x + 1) (by rw [HX.out]; omega)
              have e1 : (x + 1) % 4294967296 = x + 1 := by omega
              have e2 : (x + 1) / 4294967296 = 0 := by omega
              rw [e1, e2, Int.mul_zero, Int.add_zero] at st
              exact ⟨i + 1, _, _, by omega, by go_num, rfl, by omega, by omega, st, hbk.set _ _, ho.setCell _ _⟩
            case measure => simp [intOf] <;> omega
        · obtain rfl : cc = 0 := by omega
          go_wp2
          go_end0
          have hd := hA.done
          exact ⟨rfl, Li, hbk, by rw [hA.1, HL.out], hA.2.1, hd, ho⟩
end Go.Proofs.YtlpclahlolhjfaaDoor
