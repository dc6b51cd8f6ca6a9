import Derived.Test.YtecaaklbhhjcjaaGreatDoorIRelU4
import Derived.Laws.Bits64
import Derived.Deep.RegionHeld3
namespace Go.Proofs.YtecaaklbhhjcjaaGreatDoor
open Go.RowKit

set_option maxRecDepth 100000 in
set_option maxHeartbeats 1000000 in
theorem addTo_any (g n cap m cb : Nat) (bo : Option Addr) (L ys : List Int) (w : World) (hL : Blk w g L) (hl : L.length = n) (hw : Wf L) (hn : n ≤ 1099511627776)
    (hbl : ys.length = m) (hbw : Wf ys) (hmn : m ≤ n) (hst : Stay g w bo ys) (hfit : num L + num ys < 4294967296 ^ n) :
    Calls Tryz.prog 134 #[.slice (some ⟨g, 0, none⟩) n cap, .slice bo m cb] w fun e w' => e = .returned (.tuple #[]) ∧ ∃ L', Blk w' g L' ∧ L'.length = n ∧ Wf L' ∧ num L' = num L + num ys ∧ Only g w w' := by
  have HL := Lib.hid hl; clear hl
  have HB := Lib.hid hbl; clear hbl
  have HF := Lib.hid hfit; clear hfit
  go_enter Tryz.func134, Tryz.ntmps134
  go_wp2
  go_loopw [4, 5, 6, 10] (fun c i x j wr => ∃ (k : Nat) (cc : Int) (Lk : List Int), k ≤ m ∧ j = .int .i64 k ∧ c = .int .u64 cc ∧ 0 ≤ cc ∧ cc ≤ 1 ∧ Added L Lk k cc (num (ys.take k)) ∧ Blk wr g Lk ∧ Only g w wr)
    (fun _ _ _ j _ => m - (intOf j).toNat)
  case atStart => exact ⟨0, 0, L, Nat.zero_le _, rfl, rfl, by omega, by omega, Added.start hw, hL, Only.refl g w⟩
  case round =>
    obtain ⟨k, cc, Lk, hk, rfl, rfl, hc0, hc1, hA, hbk, ho⟩ := hrel
    by_cases hlt : k < m
    · obtain ⟨bb, ob, rfl, hcb⟩ := hst _ ho (by rw [HB.out]; omega)
      have c1 := hcb k (by rw [HB.out]; omega)
      clear hcb
      have c2 := hbk.cell k (by rw [hA.1, HL.out]; omega)
      have c3 := hbk.frozen k
      rw [getD_of_drop hA.2.2.1] at c2
      have hxr := hw.getD k
      have hyr := hbw.getD k
      obtain ⟨x, hx⟩ : ∃ x, L.getD k 0 = x := ⟨_, rfl⟩
      obtain ⟨y, hy⟩ : ∃ y, ys.getD k 0 = y := ⟨_, rfl⟩
      rw [hx] at c2 hxr
      rw [hy] at c1 hyr
      have HX := Lib.hid hx; clear hx
      have HY := Lib.hid hy; clear hy
      obtain ⟨x0, x1⟩ := hxr
      obtain ⟨y0, y1⟩ := hyr
      go_wp2
      go_roundw
      case rel =>
        have st := hA.step (by rw [HL.out]; omega) y (cc + (x + y)) (by rw [HX.out])
        rw [← HY.out, ← num_take_succ ys k (by rw [HB.out]; exact hlt), HY.out] at st
        exact ⟨k + 1, _, _, by omega, by go_num, rfl, by omega, by omega, st, hbk.set _ _, ho.setCell _ _⟩
      case measure => simp [intOf] <;> omega
    · obtain rfl : k = m := by omega
      have HA := Lib.hid hA; clear hA
      go_wp2
      go_loopw [4, 7] (fun c j wr => ∃ (k : Nat) (cc : Int) (Lk : List Int), k ≤ n ∧ j = .int .i64 k ∧ c = .int .u64 cc ∧ 0 ≤ cc ∧ cc ≤ 1 ∧ Added L Lk k cc (num ys) ∧ Blk wr g Lk ∧ Only g w wr)
        (fun c j _ => (n - (intOf j).toNat) + (intOf c).toNat)
      case atStart =>
        have := HA.out
        rw [List.take_of_length_le (by rw [HB.out]; exact Nat.le_refl _)] at this
        exact ⟨k, cc, Lk, by omega, rfl, rfl, hc0, hc1, this, hbk, ho⟩
      case round =>
        obtain ⟨i, cc, Li, hi, rfl, rfl, hc0, hc1, hA, hbk, ho⟩ := hrel
        by_cases hcc : 0 < cc
        · have hin : i < n := by have := hA.fits (by rw [HL.out]; exact hi) (by rw [HL.out]; exact HF.out) hcc; rw [HL.out] at this; exact this
          have c2 := hbk.cell i (by rw [hA.1, HL.out]; omega)
          have c3 := hbk.frozen i
          rw [getD_of_drop hA.2.2.1] at c2
          have hxr := hw.getD i
          obtain ⟨x, hx⟩ : ∃ x, L.getD i 0 = x := ⟨_, rfl⟩
          rw [hx] at c2 hxr
          have HX := Lib.hid hx; clear hx
          obtain ⟨x0, x1⟩ := hxr
          by_cases hx9 : x = 4294967295
          · subst hx9
            go_wp2
            go_roundw
            case rel =>
              have st := hA.step (by rw [HL.out]; omega) 0 4294967296 (by rw [HX.out]; omega)
              have e1 : (4294967296 : Int) % 4294967296 = 0 := by omega
              have e2 : (4294967296 : Int) / 4294967296 = cc := by omega
              rw [e1, e2, Int.mul_zero, Int.add_zero] at st
              exact ⟨i + 1, _, _, by omega, by go_num, rfl, hc0, hc1, st, hbk.set _ _, ho.setCell _ _⟩
            case measure => simp [intOf] <;> omega
          · have h9 : (x + 1 != 0) = true := by simp; omega
            go_wp2
            go_roundw
            case rel =>
              have st := hA.step (by rw [HL.out]; omega) 0 (x + 1) (by rw [HX.out]; omega)
              have e1 : (x + 1) % 4294967296 = x + 1 := by omega
              have e2 : (x + 1) / 4294967296 = 0 := by omega
              rw [e1, e2, Int.mul_zero, Int.add_zero] at st
              exact ⟨i + 1, _, _, by omega, by go_num, rfl, by omega, by omega, st, hbk.set _ _, ho.setCell _ _⟩
            case measure => simp [intOf] <;> omega
        · obtain rfl : cc = 0 := by omega
          go_wp2
          go_end0
          have hd := hA.done
          exact ⟨rfl, Li, hbk, by rw [hA.1, HL.out], hA.2.1, hd, ho⟩
end Go.Proofs.YtecaaklbhhjcjaaGreatDoor

namespace Go.Proofs.YtecaaklbhhjcjaaGreatDoor
open Go.RowKit

theorem splice_zero (n : Nat) (zs : List Int) : splice (List.replicate n 0) 0 zs = zs ++ List.replicate (n - zs.length) 0 := by
  simp [splice]

theorem num_zeros (a n : Nat) : num (limbs a ++ List.replicate n 0) = a := by
  rw [num_append, num_limbs, num_replicate]; omega

theorem sum_fits {a b n m : Nat} (ha : (limbs a).length = n) (hb : (limbs b).length = m) (h : m ≤ n) : (a : Int) + b < 4294967296 ^ (n + 1) := by
  have h1 := limbs_lt a
  have h2 := (limbs_len_le b n).1 (by omega)
  have h3 : (b : Int) < 4294967296 ^ n := by
    have h4 : ((b : Nat) : Int) < ((4294967296 ^ n : Nat) : Int) := Int.ofNat_lt.2 h2
    rw [Int.natCast_pow] at h4
    exact h4
  rw [ha] at h1
  rw [Int.pow_succ]
  omega

set_option maxRecDepth 100000 in
set_option maxHeartbeats 1000000 in
/-- the longer one first -/
theorem plus_ge (a b : Nat) (ao bo : Option Addr) (n m ca cb : Nat) (w : World) (ha : Sl w ao n ca (limbs a)) (hb : Sl w bo m cb (limbs b)) (hmn : m ≤ n) (hn : n ≤ 1000000000000) :
    Calls Tryz.prog 60 #[.slice ao n ca, .slice bo m cb] w fun e w' => ∃ ao' k cap, e = .returned (.slice ao' k cap) ∧ Sl w' ao' k cap (limbs (a + b)) ∧ Below w.heap.size w w' := by
  go_enter Tryz.func60, Tryz.ntmps60
  go_wp2_with (refine wpList_make_u32 _ rfl _ _ rfl _ (n + 1) rfl rfl (by omega) (by omega) ?_)
  intro w1 hb1 hw1
  go_wp2_with (with_reducible refine wpList_copy_u32 rfl (.tmp 17) (.tmp 18) rfl Tryz.underlying22 Tryz.sizeU32 _ 0 (n + 1) (n + 1) ao n ca rfl rfl _ hb1 (limbs a) (ha.below hw1) (by omega) (by simp) ?_)
  intro w2 hb2 hw2
  have hw2' := hw1.trans (hw2.below (Nat.le_refl _))
  rw [splice_zero, ha.len, show n + 1 - n = 1 by omega] at hb2
  have hst := hb.cells.stay_below hw2' (Nat.le_refl _)
  have hbl := hb.len
  have hal := ha.len
  have hadd := addTo_any w.heap.size (n + 1) (n + 1) m cb bo (limbs a ++ List.replicate 1 0) (limbs b) w2 hb2 (by simp [hal]) ((Wf.limbs a).append (Wf.replicate 1)) (by omega) hbl (Wf.limbs b) (by omega) hst
    (by rw [num_zeros, num_limbs]; exact sum_fits hal hbl hmn)
  rw [num_zeros, num_limbs] at hadd
  have HADD := Lib.hid hadd
  clear hadd hst hb2 hb1 hbl hal
  go_wp2_with (go_at_call 134; refine HADD.out.mono ?_; rintro e w3 ⟨rfl, L', hb3, hl3, hwf3, hnum, ho3⟩; have HL3 := Lib.hid hl3; clear hl3; have HN := Lib.hid hnum; clear hnum)
  refine (trim_sl _ _ _ L' w3 (hb3.sl hwf3 HL3.out (by omega) (Nat.le_refl _))).mono ?_
  rintro e w4 ⟨k, rfl, hs, rfl⟩
  go_wp2
  go_ret
  refine ⟨_, k, _, rfl, ?_, hw2'.trans (ho3.below (Nat.le_refl _))⟩
  rw [HN.out, show ((a : Int) + b).toNat = a + b by omega] at hs
  exact hs
set_option maxRecDepth 100000 in
set_option maxHeartbeats 1000000 in
/-- the shorter one first -/
theorem plus_lt (a b : Nat) (ao bo : Option Addr) (n m ca cb : Nat) (w : World) (ha : Sl w ao n ca (limbs a)) (hb : Sl w bo m cb (limbs b)) (hmn : n < m) (hn : m ≤ 1000000000000) :
    Calls Tryz.prog 60 #[.slice ao n ca, .slice bo m cb] w fun e w' => ∃ ao' k cap, e = .returned (.slice ao' k cap) ∧ Sl w' ao' k cap (limbs (a + b)) ∧ Below w.heap.size w w' := by
  go_enter Tryz.func60, Tryz.ntmps60
  go_wp2_with (refine wpList_make_u32 _ rfl _ _ rfl _ (m + 1) rfl rfl (by omega) (by omega) ?_)
  intro w1 hb1 hw1
  go_wp2_with (with_reducible refine wpList_copy_u32 rfl (.tmp 17) (.tmp 18) rfl Tryz.underlying22 Tryz.sizeU32 _ 0 (m + 1) (m + 1) bo m cb rfl rfl _ hb1 (limbs b) (hb.below hw1) (by omega) (by simp) ?_)
  intro w2 hb2 hw2
  have hw2' := hw1.trans (hw2.below (Nat.le_refl _))
  rw [splice_zero, hb.len, show m + 1 - m = 1 by omega] at hb2
  have hst := ha.cells.stay_below hw2' (Nat.le_refl _)
  have hal := ha.len
  have hbl := hb.len
  have hadd := addTo_any w.heap.size (m + 1) (m + 1) n ca ao (limbs b ++ List.replicate 1 0) (limbs a) w2 hb2 (by simp [hbl]) ((Wf.limbs b).append (Wf.replicate 1)) (by omega) hal (Wf.limbs a) (by omega) hst
    (by rw [num_zeros, num_limbs]; exact sum_fits hbl hal (by omega))
  rw [num_zeros, num_limbs] at hadd
  have HADD := Lib.hid hadd
  clear hadd hst hb2 hb1 hal hbl
  go_wp2_with (go_at_call 134; refine HADD.out.mono ?_; rintro e w3 ⟨rfl, L', hb3, hl3, hwf3, hnum, ho3⟩; have HL3 := Lib.hid hl3; clear hl3; have HN := Lib.hid hnum; clear hnum)
  refine (trim_sl _ _ _ L' w3 (hb3.sl hwf3 HL3.out (by omega) (Nat.le_refl _))).mono ?_
  rintro e w4 ⟨k, rfl, hs, rfl⟩
  go_wp2
  go_ret
  refine ⟨_, k, _, rfl, ?_, hw2'.trans (ho3.below (Nat.le_refl _))⟩
  rw [HN.out, show ((b : Int) + a).toNat = a + b by omega] at hs
  exact hs
/-- the sum -/
theorem plus_any (a b : Nat) (ao bo : Option Addr) (n m ca cb : Nat) (w : World) (ha : Sl w ao n ca (limbs a)) (hb : Sl w bo m cb (limbs b)) (hn : n ≤ 1000000000000) (hm : m ≤ 1000000000000) :
    Calls Tryz.prog 60 #[.slice ao n ca, .slice bo m cb] w fun e w' => ∃ ao' k cap, e = .returned (.slice ao' k cap) ∧ Sl w' ao' k cap (limbs (a + b)) ∧ Below w.heap.size w w' := by
  by_cases h : n < m
  · exact plus_lt a b ao bo n m ca cb w ha hb h hm
  · exact plus_ge a b ao bo n m ca cb w ha hb (by omega) hn
end Go.Proofs.YtecaaklbhhjcjaaGreatDoor

namespace Go.Proofs.YtecaaklbhhjcjaaGreatDoor
open Go.RowKit

/-- one limb less another one less the borrow -/
theorem sub_word (x y c : Int) (x0 : 0 ≤ x) (x1 : x < 4294967296) (y0 : 0 ≤ y) (y1 : y < 4294967296) (c0 : 0 ≤ c) (c1 : c ≤ 1) :
    0 ≤ IntKind.u64.wrap (IntKind.u64.wrap (x - y) - c) / 9223372036854775808 ∧ IntKind.u64.wrap (IntKind.u64.wrap (x - y) - c) / 9223372036854775808 ≤ 1 ∧
    IntKind.u64.wrap (IntKind.u64.wrap (x - y) - c) % 4294967296 = x - y - c + 4294967296 * (IntKind.u64.wrap (IntKind.u64.wrap (x - y) - c) / 9223372036854775808) := by
  rw [IntKind.wrap_u64, IntKind.wrap_u64]
  omega

set_option maxRecDepth 100000 in
set_option maxHeartbeats 1000000 in
theorem subFrom_any (g n cap m cb : Nat) (bo : Option Addr) (L ys : List Int) (w : World) (hL : Blk w g L) (hl : L.length = n) (hw : Wf L) (hn : n ≤ 1099511627776)
    (hbl : ys.length = m) (hbw : Wf ys) (hmn : m ≤ n) (hst : Stay g w bo ys) (hfit : num ys ≤ num L) :
    Calls Tryz.prog 135 #[.slice (some ⟨g, 0, none⟩) n cap, .slice bo m cb] w fun e w' => e = .returned (.tuple #[]) ∧ ∃ L', Blk w' g L' ∧ L'.length = n ∧ Wf L' ∧ num L' = num L - num ys ∧ Only g w w' := by
  have HL := Lib.hid hl; clear hl
  have HB := Lib.hid hbl; clear hbl
  have HF := Lib.hid hfit; clear hfit
  go_enter Tryz.func135, Tryz.ntmps135
  go_wp2
  go_loopw [4, 5, 6, 7, 11] (fun c i x d j wr => ∃ (k : Nat) (cc : Int) (Lk : List Int), k ≤ m ∧ j = .int .i64 k ∧ c = .int .u64 cc ∧ 0 ≤ cc ∧ cc ≤ 1 ∧ Taken L Lk k cc (num (ys.take k)) ∧ Blk wr g Lk ∧ Only g w wr)
    (fun _ _ _ _ j _ => m - (intOf j).toNat)
  case atStart => exact ⟨0, 0, L, Nat.zero_le _, rfl, rfl, by omega, by omega, Taken.start hw, hL, Only.refl g w⟩
  case round =>
    obtain ⟨k, cc, Lk, hk, rfl, rfl, hc0, hc1, hA, hbk, ho⟩ := hrel
    by_cases hlt : k < m
    · obtain ⟨bb, ob, rfl, hcb⟩ := hst _ ho (by rw [HB.out]; omega)
      have c1 := hcb k (by rw [HB.out]; omega)
      clear hcb
      have c2 := hbk.cell k (by rw [hA.1, HL.out]; omega)
      have c3 := hbk.frozen k
      rw [getD_of_drop hA.2.2.1] at c2
      have hxr := hw.getD k
      have hyr := hbw.getD k
      obtain ⟨x, hx⟩ : ∃ x, L.getD k 0 = x := ⟨_, rfl⟩
      obtain ⟨y, hy⟩ : ∃ y, ys.getD k 0 = y := ⟨_, rfl⟩
      rw [hx] at c2 hxr
      rw [hy] at c1 hyr
      have HX := Lib.hid hx; clear hx
      have HY := Lib.hid hy; clear hy
      obtain ⟨x0, x1⟩ := hxr
      obtain ⟨y0, y1⟩ := hyr
      go_wp2
      go_roundw
      case rel =>
        obtain ⟨s0, s1, s2⟩ := sub_word x y cc x0 x1 y0 y1 hc0 hc1
        have st := hA.step (by rw [HL.out]; omega) y _ _ ⟨Int.emod_nonneg _ (by omega), Int.emod_lt_of_pos _ (by omega)⟩ (s2.trans (by rw [HX.out]))
        rw [← HY.out, ← num_take_succ ys k (by rw [HB.out]; exact hlt), HY.out] at st
        exact ⟨k + 1, _, _, by omega, by go_num, rfl, s0, s1, st, hbk.set _ _, ho.setCell _ _⟩
      case measure => simp [intOf] <;> omega
    · obtain rfl : k = m := by omega
      have HA := Lib.hid hA; clear hA
      go_wp2
      go_loopw [4, 8] (fun c j wr => ∃ (k : Nat) (cc : Int) (Lk : List Int), k ≤ n ∧ j = .int .i64 k ∧ c = .int .u64 cc ∧ 0 ≤ cc ∧ cc ≤ 1 ∧ Taken L Lk k cc (num ys) ∧ Blk wr g Lk ∧ Only g w wr)
        (fun c j _ => (n - (intOf j).toNat) + (intOf c).toNat)
      case atStart =>
        have := HA.out
        rw [List.take_of_length_le (by rw [HB.out]; exact Nat.le_refl _)] at this
        exact ⟨k, cc, Lk, by omega, rfl, rfl, hc0, hc1, this, hbk, ho⟩
      case round =>
        obtain ⟨i, cc, Li, hi, rfl, rfl, hc0, hc1, hA, hbk, ho⟩ := hrel
        by_cases hcc : 0 < cc
        · have hin : i < n := by have := hA.fits (by rw [HL.out]; exact hi) HF.out hcc; rw [HL.out] at this; exact this
          have c2 := hbk.cell i (by rw [hA.1, HL.out]; omega)
          have c3 := hbk.frozen i
          rw [getD_of_drop hA.2.2.1] at c2
          have hxr := hw.getD i
          obtain ⟨x, hx⟩ : ∃ x, L.getD i 0 = x := ⟨_, rfl⟩
          rw [hx] at c2 hxr
          have HX := Lib.hid hx; clear hx
          obtain ⟨x0, x1⟩ := hxr
          by_cases hx9 : x = 0
          · subst hx9
            go_wp2
            go_roundw
            case rel =>
              have st := hA.step (by rw [HL.out]; omega) 0 4294967295 cc (by omega) (by rw [HX.out]; omega)
              rw [Int.mul_zero, Int.add_zero] at st
              exact ⟨i + 1, _, _, by omega, by go_num, rfl, hc0, hc1, st, hbk.set _ _, ho.setCell _ _⟩
            case measure => simp [intOf] <;> omega
          · have h9 : (x != 0) = true := by simp; omega
            go_wp2
            go_roundw
            case rel =>
              have st := hA.step (by rw [HL.out]; omega) 0 (x - 1) 0 (by omega) (by rw [HX.out]; omega)
              rw [Int.mul_zero, Int.add_zero] at st
              exact ⟨i + 1, _, _, by omega, by go_num, rfl, by omega, by omega, st, hbk.set _ _, ho.setCell _ _⟩
            case measure => simp [intOf] <;> omega
        · obtain rfl : cc = 0 := by omega
          go_wp2
          go_end0
          have hd := hA.done
          exact ⟨rfl, Li, hbk, by rw [hA.1, HL.out], hA.2.1, hd, ho⟩
end Go.Proofs.YtecaaklbhhjcjaaGreatDoor

namespace Go.Proofs.YtecaaklbhhjcjaaGreatDoor
open Go.RowKit

set_option maxRecDepth 100000 in
set_option maxHeartbeats 1000000 in
theorem minus_any (a b : Nat) (ao bo : Option Addr) (n m ca cb : Nat) (w : World) (ha : Sl w ao n ca (limbs a)) (hb : Sl w bo m cb (limbs b)) (hba : b ≤ a) :
    Calls Tryz.prog 61 #[.slice ao n ca, .slice bo m cb] w fun e w' => ∃ ao' k cap, e = .returned (.slice ao' k cap) ∧ Sl w' ao' k cap (limbs (a - b)) ∧ Below w.heap.size w w' := by
  have hn := ha.big
  go_enter Tryz.func61, Tryz.ntmps61
  go_wp2_with fail
  refine (clone_any ao n ca (limbs a) w ha).mono ?_
  rintro e w2 ⟨rfl, hb2, hw2⟩
  have hst := hb.cells.stay_below hw2 (Nat.le_refl _)
  have hbl := hb.len
  have hal := ha.len
  have hmn : m ≤ n := by rw [← hbl, ← hal]; exact limbs_mono hba
  have hadd := subFrom_any w.heap.size n n m cb bo (limbs a) (limbs b) w2 hb2 hal (Wf.limbs a) hn hbl (Wf.limbs b) hmn hst
    (by rw [num_limbs, num_limbs]; omega)
  rw [num_limbs, num_limbs] at hadd
  have HADD := Lib.hid hadd
  clear hadd hst hb2 hbl hal
  go_wp2_with fail
  refine HADD.out.mono ?_
  rintro e w3 ⟨rfl, L', hb3, hl3, hwf3, hnum, ho3⟩
  have HL3 := Lib.hid hl3; clear hl3; have HN := Lib.hid hnum; clear hnum
  go_wp2_with fail
  refine (trim_sl _ _ _ L' w3 (hb3.sl hwf3 HL3.out (by omega) (Nat.le_refl _))).mono ?_
  rintro e w4 ⟨k, rfl, hs, rfl⟩
  go_wp2
  go_ret
  refine ⟨_, k, _, rfl, ?_, hw2.trans (ho3.below (Nat.le_refl _))⟩
  rw [HN.out, show ((a : Int) - b).toNat = a - b by omega] at hs
  exact hs
end Go.Proofs.YtecaaklbhhjcjaaGreatDoor

namespace Go.Proofs.YtecaaklbhhjcjaaGreatDoor
open Go.RowKit

theorem sgd_add {nb : Bool} {zs ys : List Int} (hz : Wf zs) (hy : Wf ys) : sgd nb zs + sgd nb ys = if nb then - (((num zs).toNat + (num ys).toNat : Nat) : Int) else (((num zs).toNat + (num ys).toNat : Nat) : Int) := by
  have a := num_nonneg hz
  have b := num_nonneg hy
  unfold sgd
  cases nb <;> simp <;> omega
theorem sgd_sub_ge {nb mb : Bool} {zs ys : List Int} (hz : Wf zs) (hy : Wf ys) (hm : mb = !nb) (h : (num ys).toNat ≤ (num zs).toNat) :
    sgd nb zs + sgd mb ys = if nb then - (((num zs).toNat - (num ys).toNat : Nat) : Int) else (((num zs).toNat - (num ys).toNat : Nat) : Int) := by
  have a := num_nonneg hz
  have b := num_nonneg hy
  subst hm
  unfold sgd
  cases nb <;> simp <;> omega
theorem sgd_sub_lt {nb mb : Bool} {zs ys : List Int} (hz : Wf zs) (hy : Wf ys) (hm : mb = !nb) (h : (num zs).toNat ≤ (num ys).toNat) :
    sgd nb zs + sgd mb ys = if mb then - (((num ys).toNat - (num zs).toNat : Nat) : Int) else (((num ys).toNat - (num zs).toNat : Nat) : Int) := by
  have a := num_nonneg hz
  have b := num_nonneg hy
  subst hm
  unfold sgd
  cases nb <;> simp <;> omega

set_option maxRecDepth 100000 in
set_option maxHeartbeats 2000000 in
theorem add_same (nb : Bool) (ao : Option Addr) (n ca : Nat) (bo : Option Addr) (m cb : Nat) (x y : Int) (w : World) (ha : Bg w nb ao n ca x) (hb : Bg w nb bo m cb y) :
    Calls Tryz.prog 178 #[.agg #[.bool nb, .slice ao n ca], .agg #[.bool nb, .slice bo m cb]] w fun e w' => ∃ nr ro k cr, e = .returned (.agg #[.bool nr, .slice ro k cr]) ∧ Bn w' nr ro k cr (x + y) ∧ Below w.heap.size w w' := by
  obtain ⟨⟨zs, hs, hx⟩, hsm⟩ := ha
  obtain ⟨⟨ys, hu, hy⟩, hum⟩ := hb
  have hwz := hs.wf
  have hwy := hu.wf
  have hx' := Lib.hid hx; clear hx
  have hy' := Lib.hid hy; clear hy
  go_enter Tryz.func178, Tryz.ntmps178
  go_wp2_with fail
  obtain ⟨W, hW, hB, hbx, hby, hrx, hz⟩ := boxes2 w nb ao n ca nb bo m cb
  rw [← hW]
  clear hW
  have hs0 := hs.below hB
  have hu0 := hu.below hB
  generalize hBe : w.heap.size = B at *
  have HBe := Lib.hid hBe; clear hBe
  have hBelow := Lib.hid hB
  clear hs hu hB
  obtain ⟨k1, hk1, hs1, ht1⟩ := trim_at _ _ _ _ _ hs0
  obtain ⟨k2, hk2, hu1, ht2⟩ := trim_at _ _ _ _ _ hu0
  have HT1 := Lib.hid ht1; clear ht1
  have HT2 := Lib.hid ht2; clear ht2
  have k0 := hbx.c0
  have k1' := hbx.c1
  have l0 := hby.c0
  have l1' := hby.c1
  go_quiet ((go_at_call 58; first | (with_reducible exact quiet_left (HT1.out _ (by exact hs0.drewN _))) | (with_reducible exact quiet_left (HT2.out _ (by exact hu0.drewN _)))))
  go_wp2
  obtain ⟨W2, hW2, hq⟩ := drewN_world W nq
  rw [hW2]
  clear hW2
  have hs2 := hs1.below hq
  have hu2 := hu1.below hq
  have hbx2 := hbx.below hq
  have hrx2 := hrx.below hq
  obtain ⟨hb2, hz2⟩ := bnext hBelow.out (by omega) hq
  have hb2' := Lib.hid hb2; clear hb2
  have hz2' : B + 3 ≤ W2.heap.size := by have := hq.size; omega
  clear hs1 hu1 hs0 hu0 hbx hby hrx hq k0 k1' l0 l1' HT1 HT2
  have k0 := hbx2.c0
  go_region_held3 (fun w' => w'.cell? ⟨B, 0, none⟩ = some (.bool nb))
    (first | exact k0 | exact x2.c0 | exact x3.c0 | go_simp)
    (first
      | (go_at_call 60; refine (plus_any _ _ _ _ _ _ _ _ _ (by exact hs2.drew) (by exact hu2.drew) (by omega) (by omega)).mono ?_; rintro e w2 ⟨ro, k, cr, rfl, hp, hw2⟩; have x2 := hbx2.drew.below hw2; have y2 := hrx2.drew.below hw2)
      | (go_at_call 62; refine (signed_any _ _ _ _ _ _ (by exact hp)).mono ?_; rintro e w3 ⟨ro', cr', rfl, hs3, hw3⟩; have x3 := x2.below hw3; have y3 := y2.below hw3; have q0 := y3.c0; have q1 := y3.c1; have q2 := y3.f 0; have q3 := y3.f 1; have e0 := x3.c0))
  have z3 := y3.stored (nb && decide (0 < k)) ro' k cr'
  have z0 := z3.c0
  have z1 := z3.c1
  go_wp2
  refine bodyPost_ret (v := .agg #[.bool (nb && decide (0 < k)), .slice ro' k cr']) (by simp [results, Tryz.results178, go_sem, z0, z1]) rfl ⟨_, ro', k, cr', rfl, ?_, ?_⟩
  · refine bn_of (hs3.only_box y3 (only_set2 _ _ _ _)) rfl ?_
    rw [hx'.out, hy'.out]; exact sgd_add hwz hwy
  · obtain ⟨b1, l1⟩ := bnext hb2'.out (by omega) (Below.refl _ W2).drew
    obtain ⟨b2, l2⟩ := bnext b1 l1 hw2
    obtain ⟨b3, l3⟩ := bnext b2 l2 hw3
    rw [HBe.out]
    exact b3.trans ((only_set2 _ _ _ _).below (by omega))
set_option maxRecDepth 100000 in
set_option maxHeartbeats 2000000 in
theorem add_GE (nb mb : Bool) (ao : Option Addr) (n ca : Nat) (bo : Option Addr) (m cb : Nat) (x y : Int) (w : World) (ha : Bg w nb ao n ca x) (hb : Bg w mb bo m cb y) (hm : mb = !nb) (hge : ∀ zs ys, Sl w ao n ca zs → Sl w bo m cb ys → (num ys).toNat ≤ (num zs).toNat) :
    Calls Tryz.prog 178 #[.agg #[.bool nb, .slice ao n ca], .agg #[.bool mb, .slice bo m cb]] w fun e w' => ∃ nr ro k cr, e = .returned (.agg #[.bool nr, .slice ro k cr]) ∧ Bn w' nr ro k cr (x + y) ∧ Below w.heap.size w w' := by
  obtain ⟨⟨zs, hs, hx⟩, hsm⟩ := ha
  obtain ⟨⟨ys, hu, hy⟩, hum⟩ := hb
  have hwz := hs.wf
  have hwy := hu.wf
  have hle := hge _ _ hs hu
  have hle' := Lib.hid hle
  clear hge hle
  have hmn : (nb == mb) = false := by subst hm; cases nb <;> rfl
  have hm' := Lib.hid hm; clear hm
  have hx' := Lib.hid hx; clear hx
  have hy' := Lib.hid hy; clear hy
  go_enter Tryz.func178, Tryz.ntmps178
  go_wp2_with fail
  obtain ⟨W, hW, hB, hbx, hby, hrx, hz⟩ := boxes2 w nb ao n ca mb bo m cb
  rw [← hW]
  clear hW
  have hs0 := hs.below hB
  have hu0 := hu.below hB
  generalize hBe : w.heap.size = B at *
  have HBe := Lib.hid hBe; clear hBe
  have hBelow := Lib.hid hB
  clear hs hu hB
  obtain ⟨k1, hk1, hs1, ht1⟩ := trim_at _ _ _ _ _ hs0
  obtain ⟨k2, hk2, hu1, ht2⟩ := trim_at _ _ _ _ _ hu0
  generalize ea : (num zs).toNat = a at hs1 hle'
  generalize eb : (num ys).toNat = b at hu1 hle'
  have EA := Lib.hid ea; clear ea
  have EB := Lib.hid eb; clear eb
  have HT1 := Lib.hid ht1; clear ht1
  have HT2 := Lib.hid ht2; clear ht2
  have k0 := hbx.c0
  have k1' := hbx.c1
  have l0 := hby.c0
  have l1' := hby.c1
  go_quiet ((go_at_call 58; first | (with_reducible exact quiet_left (HT1.out _ (by exact hs0.drewN _))) | (with_reducible exact quiet_left (HT2.out _ (by exact hu0.drewN _)))))
  go_wp2_with fail
  refine (compare_any _ _ _ _ _ _ _ _ _ (by exact hs1.drewN nq) (by exact hu1.drewN nq)).mono ?_
  rintro e w' ⟨rfl, q2, rfl⟩
  rw [World.drewN_drewN]
  obtain ⟨W2, hW2, hq⟩ := drewN_world W (nq + q2)
  rw [hW2]
  clear hW2
  have hsg : decide (0 ≤ sgn3 (a : Int) (b : Int)) = true := by have := hle'.out; simp [sgn3]; omega
  have hs2 := hs1.below hq
  have hu2 := hu1.below hq
  have hbx2 := hbx.below hq
  have hrx2 := hrx.below hq
  obtain ⟨hb2, hz2⟩ := bnext hBelow.out (by omega) hq
  have hb2' := Lib.hid hb2; clear hb2
  have hz2' : B + 3 ≤ W2.heap.size := by have := hq.size; omega
  clear hs1 hu1 hs0 hu0 hbx hby hrx hq k0 k1' l0 l1' HT1 HT2
  have k0 := hbx2.c0
  go_wp2
  go_region_held3 (fun w' => w'.cell? ⟨B, 0, none⟩ = some (.bool nb))
    (first | exact k0 | exact x2.c0 | exact x3.c0 | go_simp)
    (first
      | (go_at_call 61; refine (minus_any _ _ _ _ _ _ _ _ _ (by exact hs2.drew) (by exact hu2.drew) (by exact hle'.out)).mono ?_; rintro e w2 ⟨ro, k, cr, rfl, hp, hw2⟩; have x2 := hbx2.drew.below hw2; have y2 := hrx2.drew.below hw2)
      | (go_at_call 62; refine (signed_any _ _ _ _ _ _ (by exact hp)).mono ?_; rintro e w3 ⟨ro', cr', rfl, hs3, hw3⟩; have x3 := x2.below hw3; have y3 := y2.below hw3; have q0 := y3.c0; have q1 := y3.c1; have q2 := y3.f 0; have q3 := y3.f 1; have e0 := x3.c0))
  have z3 := y3.stored (nb && decide (0 < k)) ro' k cr'
  have z0 := z3.c0
  have z1 := z3.c1
  go_wp2
  refine bodyPost_ret (v := .agg #[.bool (nb && decide (0 < k)), .slice ro' k cr']) (by simp [results, Tryz.results178, go_sem, z0, z1]) rfl ⟨_, ro', k, cr', rfl, ?_, ?_⟩
  · refine bn_of (hs3.only_box y3 (only_set2 _ _ _ _)) rfl ?_
    have e := sgd_sub_ge hwz hwy hm'.out (by rw [EA.out, EB.out]; exact hle'.out)
    rw [EA.out, EB.out] at e
    rw [hx'.out, hy'.out]; exact e
  · obtain ⟨b1, l1⟩ := bnext hb2'.out (by omega) (Below.refl _ W2).drew
    obtain ⟨b2, l2⟩ := bnext b1 l1 hw2
    obtain ⟨b3, l3⟩ := bnext b2 l2 hw3
    rw [HBe.out]
    exact b3.trans ((only_set2 _ _ _ _).below (by omega))
set_option maxRecDepth 100000 in
set_option maxHeartbeats 2000000 in
theorem add_LT (nb mb : Bool) (ao : Option Addr) (n ca : Nat) (bo : Option Addr) (m cb : Nat) (x y : Int) (w : World) (ha : Bg w nb ao n ca x) (hb : Bg w mb bo m cb y) (hm : mb = !nb) (hge : ∀ zs ys, Sl w ao n ca zs → Sl w bo m cb ys → (num zs).toNat < (num ys).toNat) :
    Calls Tryz.prog 178 #[.agg #[.bool nb, .slice ao n ca], .agg #[.bool mb, .slice bo m cb]] w fun e w' => ∃ nr ro k cr, e = .returned (.agg #[.bool nr, .slice ro k cr]) ∧ Bn w' nr ro k cr (x + y) ∧ Below w.heap.size w w' := by
  obtain ⟨⟨zs, hs, hx⟩, hsm⟩ := ha
  obtain ⟨⟨ys, hu, hy⟩, hum⟩ := hb
  have hwz := hs.wf
  have hwy := hu.wf
  have hle := hge _ _ hs hu
  have hle' := Lib.hid hle
  clear hge hle
  have hmn : (nb == mb) = false := by subst hm; cases nb <;> rfl
  have hm' := Lib.hid hm; clear hm
  have hx' := Lib.hid hx; clear hx
  have hy' := Lib.hid hy; clear hy
  go_enter Tryz.func178, Tryz.ntmps178
  go_wp2_with fail
  obtain ⟨W, hW, hB, hbx, hby, hrx, hz⟩ := boxes2 w nb ao n ca mb bo m cb
  rw [← hW]
  clear hW
  have hs0 := hs.below hB
  have hu0 := hu.below hB
  generalize hBe : w.heap.size = B at *
  have HBe := Lib.hid hBe; clear hBe
  have hBelow := Lib.hid hB
  clear hs hu hB
  obtain ⟨k1, hk1, hs1, ht1⟩ := trim_at _ _ _ _ _ hs0
  obtain ⟨k2, hk2, hu1, ht2⟩ := trim_at _ _ _ _ _ hu0
  generalize ea : (num zs).toNat = a at hs1 hle'
  generalize eb : (num ys).toNat = b at hu1 hle'
  have EA := Lib.hid ea; clear ea
  have EB := Lib.hid eb; clear eb
  have HT1 := Lib.hid ht1; clear ht1
  have HT2 := Lib.hid ht2; clear ht2
  have k0 := hbx.c0
  have k1' := hbx.c1
  have l0 := hby.c0
  have l1' := hby.c1
  go_quiet ((go_at_call 58; first | (with_reducible exact quiet_left (HT1.out _ (by exact hs0.drewN _))) | (with_reducible exact quiet_left (HT2.out _ (by exact hu0.drewN _)))))
  go_wp2_with fail
  refine (compare_any _ _ _ _ _ _ _ _ _ (by exact hs1.drewN nq) (by exact hu1.drewN nq)).mono ?_
  rintro e w' ⟨rfl, q2, rfl⟩
  rw [World.drewN_drewN]
  obtain ⟨W2, hW2, hq⟩ := drewN_world W (nq + q2)
  rw [hW2]
  clear hW2
  have hsg : decide (0 ≤ sgn3 (a : Int) (b : Int)) = false := by have := hle'.out; simp [sgn3]; omega
  have hs2 := hs1.below hq
  have hu2 := hu1.below hq
  have hbx2 := hby.below hq
  have hrx2 := hrx.below hq
  obtain ⟨hb2, hz2⟩ := bnext hBelow.out (by omega) hq
  have hb2' := Lib.hid hb2; clear hb2
  have hz2' : B + 3 ≤ W2.heap.size := by have := hq.size; omega
  clear hs1 hu1 hs0 hu0 hbx hby hrx hq k0 k1' l0 l1' HT1 HT2
  have k0 := hbx2.c0
  go_wp2
  go_region_held3 (fun w' => w'.cell? ⟨B + 1, 0, none⟩ = some (.bool mb))
    (first | exact k0 | exact x2.c0 | exact x3.c0 | go_simp)
    (first
      | (go_at_call 61; refine (minus_any _ _ _ _ _ _ _ _ _ (by exact hu2.drew) (by exact hs2.drew) (by exact Nat.le_of_lt hle'.out)).mono ?_; rintro e w2 ⟨ro, k, cr, rfl, hp, hw2⟩; have x2 := hbx2.drew.below hw2; have y2 := hrx2.drew.below hw2)
      | (go_at_call 62; refine (signed_any _ _ _ _ _ _ (by exact hp)).mono ?_; rintro e w3 ⟨ro', cr', rfl, hs3, hw3⟩; have x3 := x2.below hw3; have y3 := y2.below hw3; have q0 := y3.c0; have q1 := y3.c1; have q2 := y3.f 0; have q3 := y3.f 1; have e0 := x3.c0))
  have z3 := y3.stored (mb && decide (0 < k)) ro' k cr'
  have z0 := z3.c0
  have z1 := z3.c1
  go_wp2
  refine bodyPost_ret (v := .agg #[.bool (mb && decide (0 < k)), .slice ro' k cr']) (by simp [results, Tryz.results178, go_sem, z0, z1]) rfl ⟨_, ro', k, cr', rfl, ?_, ?_⟩
  · refine bn_of (hs3.only_box y3 (only_set2 _ _ _ _)) rfl ?_
    have e := sgd_sub_lt hwz hwy hm'.out (by rw [EA.out, EB.out]; exact Nat.le_of_lt hle'.out)
    rw [EA.out, EB.out] at e
    rw [hx'.out, hy'.out]; exact e
  · obtain ⟨b1, l1⟩ := bnext hb2'.out (by omega) (Below.refl _ W2).drew
    obtain ⟨b2, l2⟩ := bnext b1 l1 hw2
    obtain ⟨b3, l3⟩ := bnext b2 l2 hw3
    rw [HBe.out]
    exact b3.trans ((only_set2 _ _ _ _).below (by omega))
theorem num_fun {w : World} {ao : Option Addr} {n cap : Nat} {zs ys : List Int} (h : Sl w ao n cap zs) (k : Sl w ao n cap ys) : zs = ys := by
  have hl := h.len
  have kl := k.len
  apply List.ext_getElem (by rw [hl, kl])
  intro i h1 h2
  obtain ⟨b, off, e, hc⟩ := h.cells (by omega)
  obtain ⟨b', off', e', hc'⟩ := k.cells (by omega)
  rw [e] at e'
  cases e'
  have a1 := hc i h1
  rw [hc' i h2] at a1
  rw [getD_at h1, getD_at h2] at a1
  simp at a1
  exact a1.symm

/-- the sum, whatever the signs -/
theorem add_any (nb mb : Bool) (ao : Option Addr) (n ca : Nat) (bo : Option Addr) (m cb : Nat) (x y : Int) (w : World) (ha : Bg w nb ao n ca x) (hb : Bg w mb bo m cb y) :
    Calls Tryz.prog 178 #[.agg #[.bool nb, .slice ao n ca], .agg #[.bool mb, .slice bo m cb]] w fun e w' => ∃ nr ro k cr, e = .returned (.agg #[.bool nr, .slice ro k cr]) ∧ Bn w' nr ro k cr (x + y) ∧ Below w.heap.size w w' := by
  by_cases h : nb = mb
  · subst h; exact add_same nb ao n ca bo m cb x y w ha hb
  · have hm : mb = !nb := by cases nb <;> cases mb <;> simp_all
    obtain ⟨zs, hs, _⟩ := ha.ex
    obtain ⟨ys, hu, _⟩ := hb.ex
    by_cases hle : (num ys).toNat ≤ (num zs).toNat
    · exact add_GE nb mb ao n ca bo m cb x y w ha hb hm (fun zs' ys' h1 h2 => by rw [num_fun h1 hs, num_fun h2 hu]; exact hle)
    · exact add_LT nb mb ao n ca bo m cb x y w ha hb hm (fun zs' ys' h1 h2 => by rw [num_fun h1 hs, num_fun h2 hu]; omega)
end Go.Proofs.YtecaaklbhhjcjaaGreatDoor
