import Derived.Test.YtlpclahlolhjfaaDoorMoPlU3
import Derived.Laws.Bits64
namespace Go.Proofs.YtlpclahlolhjfaaDoor
open Go.RowKit

/-- one limb less another one less the borrow -/
theorem sub_word (x y c : Int) (x0 : 0 ≤ x) (x1 : x < 4294967296) (y0 : 0 ≤ y) (y1 : y < 4294967296) (c0 : 0 ≤ c) (c1 : c ≤ 1) :
    0 ≤ IntKind.u64.wrap (IntKind.u64.wrap (x - y) - c) / 9223372036854775808 ∧ IntKind.u64.wrap (IntKind.u64.wrap (x - y) - c) / 9223372036854775808 ≤ 1 ∧
    IntKind.u64.wrap (IntKind.u64.wrap (x - y) - c) % 4294967296 = x - y - c + 4294967296 * (IntKind.u64.wrap (IntKind.u64.wrap (x - y) - c) / 9223372036854775808) := by
  rw [IntKind.wrap_u64, IntKind.wrap_u64]
  omega

set_option maxRecDepth 100000 in
set_option maxHeartbeats 1000000 in
theorem subFrom_any (g n cap m cb : Nat) (bo : Option Addr) (L ys : List Int) (w : World) (hL : Blk w g L) (hl : L.length = n) (hw : Wf L) (hn : n ≤ 1099511627776)
    (hbl : ys.length = m) (hbw : Wf ys) (hmn : m ≤ n) (hst : Stay g w bo ys) (hfit : num ys ≤ num L) :
    Calls Tryd.prog 70 #[.slice (some ⟨g, 0, none⟩) n cap, .slice bo m cb] w fun e w' => e = .returned (.tuple #[]) ∧ ∃ L', Blk w' g L' ∧ L'.length = n ∧ Wf L' ∧ num L' = num L - num ys ∧ Only g w w' := by
  have HL := Lib.hid hl; clear hl
  have HB := Lib.hid hbl; clear hbl
  have HF := Lib.hid hfit; clear hfit
  go_enter Tryd.func70, Tryd.ntmps70
  go_wp2
  go_loopw [4, 5, 6, 7, 11] (fun c i x d j wr => ∃ (k : Nat) (cc : Int) (Lk : List Int), k ≤ m ∧ j = .int .i64 k ∧ c = .int .u64 cc ∧ 0 ≤ cc ∧ cc ≤ 1 ∧ Taken L Lk k cc (num (ys.take k)) ∧ Blk wr g Lk ∧ Only g w wr)
    (fun _ _ _ _ j _ => m - (intOf j).toNat)
  case atStart => exact ⟨0, 0, L, Nat.zero_le _, rfl, rfl, by omega, by omega, Taken.start hw, hL, Only.refl g w⟩
  case round =>
    obtain ⟨k, cc, Lk, hk, rfl, rfl, hc0, hc1, hA, hbk, ho⟩ := hrel
    by_cases hlt : k < m
    · obtain ⟨bb, ob, rfl, hcb⟩ := hst _ ho (by rw [HB.out]; omega)
      have c1 := hcb k (by rw [HB.out]; omega)
      clear hcb
      have c2 := hbk.cell k (by rw [hA.1, HL.out]; omega)
      have c3 := hbk.frozen k
      rw [getD_of_drop hA.2.2.1] at c2
      have hxr := hw.getD k
      have hyr := hbw.getD k
      obtain ⟨x, hx⟩ : ∃ x, L.getD k 0 = x := ⟨_, rfl⟩
      obtain ⟨y, hy⟩ : ∃ y, ys.getD k 0 = y := ⟨_, rfl⟩
      rw [hx] at c2 hxr
      rw [hy] at c1 hyr
      have HX := Lib.hid hx; clear hx
      have HY := Lib.hid hy; clear hy
      obtain ⟨x0, x1⟩ := hxr
      obtain ⟨y0, y1⟩ := hyr
      go_wp2
      go_roundw
      case rel =>
        obtain ⟨s0, s1, s2⟩ := sub_word x y cc x0 x1 y0 y1 hc0 hc1
        have st := hA.step (by rw [HL.out]; omega) y _ _ ⟨Int.emod_nonneg _ (by omega), Int.emod_lt_of_pos _ (by omega)⟩ (s2.trans (by rw [HX.out]))
        rw [← HY.out, ← num_take_succ ys k (by rw [HB.out]; exact hlt), HY.out] at st
        exact ⟨k + 1, _, _, by omega, by go_num, rfl, s0, s1, st, hbk.set _ _, ho.setCell _ _⟩
      case measure => simp [intOf] <;> omega
    · obtain rfl : k = m := by omega
      have HA := Lib.hid hA; clear hA
      go_wp2
      go_loopw [4, 8] (fun c j wr => ∃ (k : Nat) (cc : Int) (Lk : List Int), k ≤ n ∧ j = .int .i64 k ∧ c = .int .u64 cc ∧ 0 ≤ cc ∧ cc ≤ 1 ∧ Taken L Lk k cc (num ys) ∧ Blk wr g Lk ∧ Only g w wr)
        (fun c j _ => (n - (intOf j).toNat) + (intOf c).toNat)
      case atStart =>
        have := HA.out
        rw [List.take_of_length_le (by rw [HB.out]; exact Nat.le_refl _)] at this
        exact ⟨k, cc, Lk, by omega, rfl, rfl, hc0, hc1, this, hbk, ho⟩
      case round =>
        obtain ⟨i, cc, Li, hi, rfl, rfl, hc0, hc1, hA, hbk, ho⟩ := hrel
        by_cases hcc : 0 < cc
        · have hin : i < n := by have := hA.fits (by rw [HL.out]; exact hi) HF.out hcc; rw [HL.out] at this; exact this
          have c2 := hbk.cell i (by rw [hA.1, HL.out]; omega)
          have c3 := hbk.frozen i
          rw [getD_of_drop hA.2.2.1] at c2
          have hxr := hw.getD i
          obtain ⟨x, hx⟩ : ∃ x, L.getD i 0 = x := ⟨_, rfl⟩
          rw [hx] at c2 hxr
          have HX := Lib.hid hx; clear hx
          obtain ⟨x0, x1⟩ := hxr
          by_cases hx9 : x = 0
          · subst hx9
            go_wp2
            go_roundw
            case rel =>
              have st := hA.step (by rw [HL.out]; omega) 0 4294967295 cc (by omega) (by rw [HX.out]; omega)
              rw [Int.mul_zero, Int.add_zero] at st
              exact ⟨i + 1, _, _, by omega, by go_num, rfl, hc0, hc1, st, hbk.set _ _, ho.setCell _ _⟩
            case measure => simp [intOf] <;> omega
          · have h9 : (x != 0) = true := by simp; omega
            go_wp2
            go_roundw
            case rel =>
              have st := hA.step (by rw [HL.out]; omega) 0 (x - 1) 0 (by omega) (by rw [HX.out]; omega)
              rw [Int.mul_zero, Int.add_zero] at st
              exact ⟨i + 1, _, _, by omega, by go_num, rfl, by omega, by omega, st, hbk.set _ _, ho.setCell _ _⟩
            case measure => simp [intOf] <;> omega
        · obtain rfl : cc = 0 := by omega
          go_wp2
          go_end0
          have hd := hA.done
          exact ⟨rfl, Li, hbk, by rw [hA.1, HL.out], hA.2.1, hd, ho⟩
end Go.Proofs.YtlpclahlolhjfaaDoor

namespace Go.Proofs.YtlpclahlolhjfaaDoor
open Go.RowKit

theorem num_take_next (zs : List Int) (k : Nat) : num (zs.take (k + 1)) = num (zs.take k) + 4294967296 ^ k * zs.getD k 0 := by
  by_cases h : k < zs.length
  · exact num_take_succ zs k h
  · rw [List.take_of_length_le (by omega), List.take_of_length_le (by omega), List.getD, List.getElem?_eq_none (by omega)]
    simp

end Go.Proofs.YtlpclahlolhjfaaDoor
