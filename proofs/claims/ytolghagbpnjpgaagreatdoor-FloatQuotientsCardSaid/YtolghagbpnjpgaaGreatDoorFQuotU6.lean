import Derived.Test.YtolghagbpnjpgaaGreatDoorFQuotU5
import Derived.Laws.Bits64
import Derived.Deep.RegionHeld3
import Derived.Deep.QuietTactic
import Derived.BigQuiet
namespace Go.Proofs.YtolghagbpnjpgaaGreatDoor
open Go.RowKit

/-- one limb less another one less the borrow -/
theorem sub_word (x y c : Int) (x0 : 0 ≤ x) (x1 : x < 4294967296) (y0 : 0 ≤ y) (y1 : y < 4294967296) (c0 : 0 ≤ c) (c1 : c ≤ 1) :
    0 ≤ IntKind.u64.wrap (IntKind.u64.wrap (x - y) - c) / 9223372036854775808 ∧ IntKind.u64.wrap (IntKind.u64.wrap (x - y) - c) / 9223372036854775808 ≤ 1 ∧
    IntKind.u64.wrap (IntKind.u64.wrap (x - y) - c) % 4294967296 = x - y - c + 4294967296 * (IntKind.u64.wrap (IntKind.u64.wrap (x - y) - c) / 9223372036854775808) := by
  rw [IntKind.wrap_u64, IntKind.wrap_u64]
  omega

set_option maxRecDepth 100000 in
set_option maxHeartbeats 1000000 in
theorem subFrom_any (g n cap m cb : Nat) (bo : Option Addr) (L ys : List Int) (w : World) (hL : Blk w g L) (hl : L.length = n) (hw : Wf L) (hn : n ≤ 1099511627776)
    (hbl : ys.length = m) (hbw : Wf ys) (hmn : m ≤ n) (hst : Stay g w bo ys) (hfit : num ys ≤ num L) :
    Calls Tryz.prog 222 #[.slice (some ⟨g, 0, none⟩) n cap, .slice bo m cb] w fun e w' => e = .returned (.tuple #[]) ∧ ∃ L', Blk w' g L' ∧ L'.length = n ∧ Wf L' ∧ num L' = num L - num ys ∧ Only g w w' := by
  have HL := Lib.hid hl; clear hl
  have HB := Lib.hid hbl; clear hbl
  have HF := Lib.hid hfit; clear hfit
  go_enter Tryz.func222, Tryz.ntmps222
  go_wp2
  go_loopw [4, 5, 6, 7, 11] (fun c i x d j wr => ∃ (k : Nat) (cc : Int) (Lk : List Int), k ≤ m ∧ j = .int .i64 k ∧ c = .int .u64 cc ∧ 0 ≤ cc ∧ cc ≤ 1 ∧ Taken L Lk k cc (num (ys.take k)) ∧ Blk wr g Lk ∧ Only g w wr)
    (fun _ _ _ _ j _ => m - (intOf j).toNat)
  case atStart => exact ⟨0, 0, L, Nat.zero_le _, rfl, rfl, by omega, by omega, Taken.start hw, hL, Only.refl g w⟩
  case round =>
    obtain ⟨k, cc, Lk, hk, rfl, rfl, hc0, hc1, hA, hbk, ho⟩ := hrel
    by_cases hlt : k < m
    · obtain ⟨bb, ob, rfl, hcb⟩ := hst _ ho (by rw [HB.out]; omega)
      have c1 := hcb k (by rw [HB.out]; omega)
      clear hcb
      have c2 := hbk.cell k (by rw [hA.1, HL.out]; omega)
      have c3 := hbk.frozen k
      rw [getD_of_drop hA.2.2.1] at c2
      have hxr := hw.getD k
      have hyr := hbw.getD k
      obtain ⟨x, hx⟩ : ∃ x, L.getD k 0 = x := ⟨_, rfl⟩
      obtain ⟨y, hy⟩ : ∃ y, ys.getD k 0 = y := ⟨_, rfl⟩
      rw [hx] at c2 hxr
      rw [hy] at c1 hyr
      have HX := Lib.hid hx; clear hx
      have HY := Lib.hid hy; clear hy
      obtain ⟨x0, x1⟩ := hxr
      obtain ⟨y0, y1⟩ := hyr
      go_wp2
      go_roundw
      case rel =>
        obtain ⟨s0, s1, s2⟩ := sub_word x y cc x0 x1 y0 y1 hc0 hc1
        have st := hA.step (by rw [HL.out]; omega) y _ _ ⟨Int.emod_nonneg _ (by omega), Int.emod_lt_of_pos _ (by omega)⟩ (s2.trans (by rw [HX.out]))
        rw [← HY.out, ← num_take_succ ys k (by rw [HB.out]; exact hlt), HY.out] at st
        exact ⟨k + 1, _, _, by omega, by go_num, rfl, s0, s1, st, hbk.set _ _, ho.setCell _ _⟩
      case measure => simp [intOf] <;> omega
    · obtain rfl : k = m := by omega
      have HA := Lib.hid hA; clear hA
      go_wp2
      go_loopw [4, 8] (fun c j wr => ∃ (k : Nat) (cc : Int) (Lk : List Int), k ≤ n ∧ j = .int .i64 k ∧ c = .int .u64 cc ∧ 0 ≤ cc ∧ cc ≤ 1 ∧ Taken L Lk k cc (num ys) ∧ Blk wr g Lk ∧ Only g w wr)
        (fun c j _ => (n - (intOf j).toNat) + (intOf c).toNat)
      case atStart =>
        have := HA.out
        rw [List.take_of_length_le (by rw [HB.out]; exact Nat.le_refl _)] at this
        exact ⟨k, cc, Lk, by omega, rfl, rfl, hc0, hc1, this, hbk, ho⟩
      case round =>
        obtain ⟨i, cc, Li, hi, rfl, rfl, hc0, hc1, hA, hbk, ho⟩ := hrel
        by_cases hcc : 0 < cc
        · have hin : i < n := by have := hA.fits (by rw [HL.out]; exact hi) HF.out hcc; rw [HL.out] at this; exact this
          have c2 := hbk.cell i (by rw [hA.1, HL.out]; omega)
          have c3 := hbk.frozen i
          rw [getD_of_drop hA.2.2.1] at c2
          have hxr := hw.getD i
          obtain ⟨x, hx⟩ : ∃ x, L.getD i 0 = x := ⟨_, rfl⟩
          rw [hx] at c2 hxr
          have HX := Lib.hid hx; clear hx
          obtain ⟨x0, x1⟩ := hxr
          by_cases hx9 : x = 0
          · subst hx9
            go_wp2
            go_roundw
            case rel =>
              have st := hA.step (by rw [HL.out]; omega) 0 4294967295 cc (by omega) (by rw [HX.out]; omega)
              rw [Int.mul_zero, Int.add_zero] at st
              exact ⟨i + 1, _, _, by omega, by go_num, rfl, hc0, hc1, st, hbk.set _ _, ho.setCell _ _⟩
            case measure => simp [intOf] <;> omega
          · have h9 : (x != 0) = true := by simp; omega
            go_wp2
            go_roundw
            case rel =>
              have st := hA.step (by rw [HL.out]; omega) 0 (x - 1) 0 (by omega) (by rw [HX.out]; omega)
              rw [Int.mul_zero, Int.add_zero] at st
              exact ⟨i + 1, _, _, by omega, by go_num, rfl, by omega, by omega, st, hbk.set _ _, ho.setCell _ _⟩
            case measure => simp [intOf] <;> omega
        · obtain rfl : cc = 0 := by omega
          go_wp2
          go_end0
          have hd := hA.done
          exact ⟨rfl, Li, hbk, by rw [hA.1, HL.out], hA.2.1, hd, ho⟩
end Go.Proofs.YtolghagbpnjpgaaGreatDoor

namespace Go.Proofs.YtolghagbpnjpgaaGreatDoor
open Go.RowKit

set_option maxRecDepth 100000 in
set_option maxHeartbeats 1000000 in
theorem minus_any (a b : Nat) (ao bo : Option Addr) (n m ca cb : Nat) (w : World) (ha : Sl w ao n ca (limbs a)) (hb : Sl w bo m cb (limbs b)) (hba : b ≤ a) :
    Calls Tryz.prog 204 #[.slice ao n ca, .slice bo m cb] w fun e w' => ∃ ao' k cap, e = .returned (.slice ao' k cap) ∧ Sl w' ao' k cap (limbs (a - b)) ∧ Below w.heap.size w w' := by
  have hn := ha.big
  go_enter Tryz.func204, Tryz.ntmps204
  go_wp2_with fail
  refine (clone_any ao n ca (limbs a) w ha).mono ?_
  rintro e w2 ⟨rfl, hb2, hw2⟩
  have hst := hb.cells.stay_below hw2 (Nat.le_refl _)
  have hbl := hb.len
  have hal := ha.len
  have hmn : m ≤ n := by rw [← hbl, ← hal]; exact limbs_mono hba
  have hadd := subFrom_any w.heap.size n n m cb bo (limbs a) (limbs b) w2 hb2 hal (Wf.limbs a) hn hbl (Wf.limbs b) hmn hst
    (by rw [num_limbs, num_limbs]; omega)
  rw [num_limbs, num_limbs] at hadd
  have HADD := Lib.hid hadd
  clear hadd hst hb2 hbl hal
  go_wp2_with fail
  refine HADD.out.mono ?_
  rintro e w3 ⟨rfl, L', hb3, hl3, hwf3, hnum, ho3⟩
  have HL3 := Lib.hid hl3; clear hl3; have HN := Lib.hid hnum; clear hnum
  go_wp2_with fail
  refine (trim_sl _ _ _ L' w3 (hb3.sl hwf3 HL3.out (by omega) (Nat.le_refl _))).mono ?_
  rintro e w4 ⟨k, rfl, hs, rfl⟩
  go_wp2
  go_ret
  refine ⟨_, k, _, rfl, ?_, hw2.trans (ho3.below (Nat.le_refl _))⟩
  rw [HN.out, show ((a : Int) - b).toNat = a - b by omega] at hs
  exact hs
end Go.Proofs.YtolghagbpnjpgaaGreatDoor

namespace Go.Proofs.YtolghagbpnjpgaaGreatDoor
open Go.RowKit

theorem Bg.only_box {w w' : World} {g : Nat} {nb mb : Bool} {ao ro : Option Addr} {n cap k cr : Nat} {x : Int} (h : Bg w mb ro k cr x) (hx : Box w g nb ao n cap) (ho : Only g w w') : Bg w' mb ro k cr x := by
  obtain ⟨⟨zs, h1, h2⟩, h3⟩ := h
  exact ⟨⟨zs, h1.only_box hx ho, h2⟩, h3⟩
theorem Bn.only_box {w w' : World} {g : Nat} {nb mb : Bool} {ao ro : Option Addr} {n cap k cr : Nat} {x : Int} (h : Bn w mb ro k cr x) (hx : Box w g nb ao n cap) (ho : Only g w w') : Bn w' mb ro k cr x :=
  ⟨h.neg, h.sl.only_box hx ho⟩

end Go.Proofs.YtolghagbpnjpgaaGreatDoor

namespace Go.Proofs.YtolghagbpnjpgaaGreatDoor
open Go.RowKit

/-- the first k rows of the product are in Lk, and nothing stands above them -/
def PRows (a b Lk : List Int) (n k : Nat) : Prop :=
  Lk.length = n + b.length ∧ Wf Lk ∧ num Lk = num a * num (b.take k) ∧ ∀ i, n + k ≤ i → Lk.getD i 0 = 0

theorem getD_replicate (n i : Nat) : (List.replicate n (0 : Int)).getD i 0 = 0 := by
  by_cases h : i < n <;> simp [List.getD, h]

theorem PRows.start (a b : List Int) (n m : Nat) (hm : b.length = m) : PRows a b (List.replicate (n + m) 0) n 0 :=
  ⟨by simp [hm], Wf.replicate _, by simp [num_replicate, num], fun i _ => getD_replicate _ i⟩

theorem mul_bounds {x y : Int} (x0 : 0 ≤ x) (x1 : x < 4294967296) (y0 : 0 ≤ y) (y1 : y < 4294967296) : 0 ≤ x * y ∧ x * y ≤ 18446744065119617025 := by
  refine ⟨Int.mul_nonneg x0 y0, ?_⟩
  have h1 : x * y ≤ 4294967295 * y := Int.mul_le_mul_of_nonneg_right (by omega) y0
  omega

theorem row_step (k j : Nat) (x y N : Int) : 4294967296 ^ k * (x * N) + 4294967296 ^ (k + j) * (x * y) = 4294967296 ^ k * (x * (N + 4294967296 ^ j * y)) := by
  rw [Int.pow_add, Int.mul_add, Int.mul_add, Int.mul_assoc, Int.mul_left_comm (4294967296 ^ j) x y]

theorem getD_of_drop_le {zs ys : List Int} {k i : Nat} (h : zs.drop k = ys.drop k) (hi : k ≤ i) : zs.getD i 0 = ys.getD i 0 := by
  have := congrArg (fun l => l.getD (i - k) 0) h
  simpa [List.getD, show k + (i - k) = i by omega] using this

theorem PRows.step {a b Lk L' : List Int} {n k : Nat} {x : Int} {i : Nat} (h : PRows a b Lk n k) (st : Added Lk L' (i + 1) 0 (4294967296 ^ k * (x * num a))) (hi : i = k + n) (hk : k < b.length) (hx : b.getD k 0 = x) :
    PRows a b L' n (k + 1) := by
  obtain ⟨h1, h2, h3, h4⟩ := h
  refine ⟨by rw [st.1, h1], st.2.1, ?_, ?_⟩
  · rw [st.done, h3, num_take_succ b k hk, hx, Int.mul_add]
    congr 1
    rw [Int.mul_comm x, Int.mul_left_comm]
  · intro j hj
    rw [getD_of_drop_le st.2.2.1 (by omega)]
    exact h4 j (by omega)

end Go.Proofs.YtolghagbpnjpgaaGreatDoor

namespace Go.Proofs.YtolghagbpnjpgaaGreatDoor
open Go.RowKit

set_option maxRecDepth 100000 in
set_option maxHeartbeats 2000000 in
theorem norm_any (nb : Bool) (ao : Option Addr) (n cap : Nat) (x : Int) (w : World) (h : Bg w nb ao n cap x) :
    Calls Tryz.prog 190 #[.agg #[.bool nb, .slice ao n cap]] w fun e w' => ∃ nr ro k cr, e = .returned (.agg #[.bool nr, .slice ro k cr]) ∧ Bn w' nr ro k cr x ∧ Below w.heap.size w w' := by
  obtain ⟨⟨zs, hs, hx⟩, hsm⟩ := h
  have hx' := Lib.hid hx; clear hx
  go_enter Tryz.func190, Tryz.ntmps190
  go_wp2_with fail
  obtain ⟨W, hW, hB, hbx, hrx, hz⟩ := boxes1 w nb ao n cap
  rw [← hW]
  clear hW
  have hs0 := hs.below hB
  generalize hBe : w.heap.size = B at *
  have HBe := Lib.hid hBe; clear hBe
  have hBelow := Lib.hid hB
  clear hs hB
  have k0 := hbx.c0
  have k1 := hbx.c1
  go_region_held3 (fun w' => w'.cell? ⟨B, 0, none⟩ = some (.bool nb) ∧ w'.cell? ⟨B, 1, none⟩ = some (.slice ao n cap))
    (first | exact ⟨k0, k1⟩ | exact ⟨x2.c0, x2.c1⟩ | exact ⟨x3.c0, x3.c1⟩ | (refine ⟨?_, ?_⟩ <;> go_simp))
    (first
      | (go_at_call 147; refine (trim_sl ao n cap zs _ (by exact hs0.below ((Below.refl _ _).drew))).mono ?_; rintro e w1 ⟨k, rfl, hs1, rfl⟩)
      | (go_at_call 215; refine (clone_any _ _ _ _ _ hs1).mono ?_; rintro e w2 ⟨rfl, hb2, hw2⟩; have x2 := (hbx.below ((Below.refl _ _).drew)).below hw2; have y2 := (hrx.below ((Below.refl _ _).drew)).below hw2)
      | (go_at_call 188; refine (signed_any _ _ _ _ _ _ (hb2.sl (Wf.limbs _) hs1.len hs1.big (Nat.le_refl _))).mono ?_; rintro e w3 ⟨ro, cr, rfl, hs3, hw3⟩; have x3 := x2.below hw3; have y3 := y2.below hw3; have q0 := y3.c0; have q1 := y3.c1; have q2 := y3.f 0; have q3 := y3.f 1; have e0 := x3.c0; have e1 := x3.c1))
  have z3 := y3.stored (nb && decide (0 < k)) ro k cr
  have z0 := z3.c0
  have z1 := z3.c1
  go_wp2
  refine bodyPost_ret (v := .agg #[.bool (nb && decide (0 < k)), .slice ro k cr]) (by simp [results, Tryz.results190, go_sem, z0, z1]) rfl ⟨_, ro, k, cr, rfl, ?_, ?_⟩
  · refine bn_of (hs3.only_box y3 (only_set2 _ _ _ _)) rfl ?_
    rw [hx'.out, Int.toNat_of_nonneg (num_nonneg hs0.wf)]; rfl
  · obtain ⟨b1, l1⟩ := bnext hBelow.out (by omega) (Below.refl _ W).drew
    obtain ⟨b2, l2⟩ := bnext b1 l1 hw2
    obtain ⟨b3, l3⟩ := bnext b2 l2 hw3
    rw [HBe.out]
    exact b3.trans ((only_set2 _ _ _ _).below (by omega))
end Go.Proofs.YtolghagbpnjpgaaGreatDoor

namespace Go.Proofs.YtolghagbpnjpgaaGreatDoor
open Go.RowKit

theorem num_two (v : Int) : num [v % 4294967296, v / 4294967296] = v := by simp only [num]; omega

set_option maxRecDepth 100000 in
set_option maxHeartbeats 1000000 in
theorem fromWord_any (v : Int) (w : World) (h0 : 0 ≤ v) (h1 : v ≤ 18446744073709551615) :
    Calls Tryz.prog 189 #[.int .u64 v] w fun e w' => ∃ ro k cr, e = .returned (.slice ro k cr) ∧ Sl w' ro k cr (limbs v.toNat) ∧ Below w.heap.size w w' := by
  go_enter Tryz.func189, Tryz.ntmps189
  go_wp2_with fail
  have hb : Blk (w.alloc (.cells #[.int .u32 (v % 4294967296), .int .u32 (v / 4294967296)] 96)) w.heap.size [v % 4294967296, v / 4294967296] := heap_alloc_new w _
  refine (trim_sl _ _ _ _ _ (hb.sl (n := 2) (Wf.cons (by omega) (Wf.cons (by omega) Wf.nil)) rfl (by omega) (Nat.le_refl _))).mono ?_
  rintro e w4 ⟨k, rfl, hs, rfl⟩
  rw [num_two] at hs
  go_wp2
  go_ret
  exact ⟨_, k, _, rfl, hs, (Below.refl _ w).alloc (Nat.le_refl _) _⟩

set_option maxRecDepth 100000 in
set_option maxHeartbeats 1000000 in
theorem fromInt_any (x : Int) (w : World) (h0 : -9223372036854775808 ≤ x) (h1 : x ≤ 9223372036854775807) :
    Calls Tryz.prog 144 #[.int .i64 x] w fun e w' => ∃ nr ro k cr, e = .returned (.agg #[.bool nr, .slice ro k cr]) ∧ Bn w' nr ro k cr x ∧ Below w.heap.size w w' := by
  by_cases hx : x < 0
  · go_enter Tryz.func144, Tryz.ntmps144
    go_wp2_with fail
    rw [show IntKind.u64.wrap (-IntKind.u64.wrap x) = -x from by rw [IntKind.wrap_u64, IntKind.wrap_u64]; omega]
    have hrx := Box.new w false none 0 0
    have hB := (Below.refl w.heap.size w).alloc (Nat.le_refl _) (.cells #[.bool false, .slice none 0 0] 31)
    have hz : w.heap.size + 1 ≤ (w.alloc (.cells #[.bool false, .slice none 0 0] 31)).heap.size := by simp
    generalize w.alloc (.cells #[.bool false, .slice none 0 0] 31) = W at *
    refine (fromWord_any (-x) W (by omega) (by omega)).mono ?_
    rintro e w2 ⟨ro, k, cr, rfl, hs, hw2⟩
    have y2 := hrx.below hw2
    go_wp2_with fail
    refine (signed_any _ _ _ _ _ _ hs).mono ?_
    rintro e w3 ⟨ro', cr', rfl, hs3, hw3⟩
    have y3 := y2.below hw3
    obtain ⟨b2, l2⟩ := bnext hB (by omega) hw2
    obtain ⟨b3, l3⟩ := bnext b2 l2 hw3
    generalize hBe : w.heap.size = B at *
    have HBe := Lib.hid hBe; clear hBe
    have z2 := hw2.size
    have z3' := hw3.size
    clear hrx hB hw2 hw3 y2 hs b2 l2
    have q0 := y3.c0
    have q1 := y3.c1
    have q2 := y3.f 0
    have q3 := y3.f 1
    have z3 := y3.stored (true && decide (0 < k)) ro' k cr'
    have z0 := z3.c0
    have z1 := z3.c1
    simp only [Bool.true_and] at z0 z1
    go_wp2
    refine bodyPost_ret (v := .agg #[.bool (true && decide (0 < k)), .slice ro' k cr']) (by simp [results, Tryz.results144, go_sem, z0, z1]) rfl ⟨_, ro', k, cr', rfl, ?_, ?_⟩
    · refine bn_of (nb := true) (Sl.only_box hs3 y3 (only_set2 _ _ _ _)) rfl ?_
      simp; omega
    · rw [HBe.out]
      exact b3.trans ((only_set2 _ _ _ _).below (by omega))
  · go_enter Tryz.func144, Tryz.ntmps144
    go_wp2_with fail
    have hrx := Box.new w false none 0 0
    have hB := (Below.refl w.heap.size w).alloc (Nat.le_refl _) (.cells #[.bool false, .slice none 0 0] 31)
    have hz : w.heap.size + 1 ≤ (w.alloc (.cells #[.bool false, .slice none 0 0] 31)).heap.size := by simp
    generalize w.alloc (.cells #[.bool false, .slice none 0 0] 31) = W at *
    refine (fromWord_any x W (by omega) (by omega)).mono ?_
    rintro e w2 ⟨ro, k, cr, rfl, hs, hw2⟩
    have y2 := hrx.below hw2
    go_wp2_with fail
    refine (signed_any _ _ _ _ _ _ hs).mono ?_
    rintro e w3 ⟨ro', cr', rfl, hs3, hw3⟩
    have y3 := y2.below hw3
    obtain ⟨b2, l2⟩ := bnext hB (by omega) hw2
    obtain ⟨b3, l3⟩ := bnext b2 l2 hw3
    generalize hBe : w.heap.size = B at *
    have HBe := Lib.hid hBe; clear hBe
    have z2 := hw2.size
    have z3' := hw3.size
    clear hrx hB hw2 hw3 y2 hs b2 l2
    have q0 := y3.c0
    have q1 := y3.c1
    have q2 := y3.f 0
    have q3 := y3.f 1
    have z3 := y3.stored (false && decide (0 < k)) ro' k cr'
    have z0 := z3.c0
    have z1 := z3.c1
    simp only [Bool.false_and] at z0 z1
    go_wp2
    refine bodyPost_ret (v := .agg #[.bool (false && decide (0 < k)), .slice ro' k cr']) (by simp [results, Tryz.results144, go_sem, z0, z1]) rfl ⟨_, ro', k, cr', rfl, ?_, ?_⟩
    · refine bn_of (nb := false) (Sl.only_box hs3 y3 (only_set2 _ _ _ _)) rfl ?_
      simp; omega
    · rw [HBe.out]
      exact b3.trans ((only_set2 _ _ _ _).below (by omega))
end Go.Proofs.YtolghagbpnjpgaaGreatDoor

namespace Go.Proofs.YtolghagbpnjpgaaGreatDoor
open Go.RowKit

/-- later, with all that was there as it was -/
def Ext (w w' : World) : Prop := Below w.heap.size w w'
theorem Ext.refl (w : World) : Ext w w := Below.refl _ _
theorem Ext.trans {a b c : World} (h : Ext a b) (k : Ext b c) : Ext a c := Below.trans h (Below.mono k h.size)

/-- a value, the number that it stands for, how many limbs it has at most, is it normalized -/
structure Ent where
  v : Value
  x : Int
  N : Nat
  c : Bool

def Ent.Ok (w : World) (p : Ent) : Prop :=
  ∃ nb ao n ca, p.v = .agg #[.bool nb, .slice ao n ca] ∧ Bg w nb ao n ca p.x ∧ n ≤ p.N ∧ p.x.natAbs < 4294967296 ^ p.N ∧ (p.c = true → Bn w nb ao n ca p.x)

theorem Ent.Ok.ext {w w' : World} {p : Ent} (h : p.Ok w) (he : Ext w w') : p.Ok w' := by
  obtain ⟨nb, ao, n, ca, h1, h2, h3, h4, h5⟩ := h
  exact ⟨nb, ao, n, ca, h1, h2.below he, h3, h4, fun e => (h5 e).below he⟩

/-- what is at hand -/
structure St (W w : World) (L : List Ent) : Prop where
  ext : Ext W w
  bag : ∀ p ∈ L, p.Ok w

theorem St.step {W w w' : World} {L : List Ent} (h : St W w L) (he : Ext w w') : St W w' L := ⟨h.ext.trans he, fun p hp => (h.bag p hp).ext he⟩
theorem St.drew {W w : World} {L : List Ent} (h : St W w L) : St W w.drew L := h.step (Below.refl _ _).drew
theorem St.drewN {W w : World} {L : List Ent} (h : St W w L) (q : Nat) : St W (w.drewN q) L := h.step (below_drewN (Below.refl _ _) q)

theorem len_of_lt {x : Int} {N : Nat} (h : x.natAbs < 4294967296 ^ N) : (limbs x.natAbs).length ≤ N := (limbs_len_le _ _).2 h

theorem pow_le {a b : Nat} (h : a ≤ b) : 4294967296 ^ a ≤ 4294967296 ^ b := Nat.pow_le_pow_right (by omega) h

theorem abs_add {x y : Int} {N M : Nat} (hx : x.natAbs < 4294967296 ^ N) (hy : y.natAbs < 4294967296 ^ M) : (x + y).natAbs < 4294967296 ^ (max N M + 1) := by
  have h1 := Nat.lt_of_lt_of_le hx (pow_le (Nat.le_max_left N M))
  have h2 := Nat.lt_of_lt_of_le hy (pow_le (Nat.le_max_right N M))
  have h3 := Int.natAbs_add_le x y
  rw [Nat.pow_succ]
  omega
theorem abs_sub {x y : Int} {N M : Nat} (hx : x.natAbs < 4294967296 ^ N) (hy : y.natAbs < 4294967296 ^ M) : (x - y).natAbs < 4294967296 ^ (max N M + 1) := by
  have := abs_add hx (y := -y) (M := M) (by rw [Int.natAbs_neg]; exact hy)
  rwa [← Int.sub_eq_add_neg] at this
section
variable {W w : World} {L : List Ent} {u v : Value} {x y : Int} {N M : Nat} {c d : Bool}

end

/-- a small raw argument -/
theorem ok_raw {w : World} {nb : Bool} {ao : Option Addr} {n ca : Nat} {zs : List Int} (h : Sl w ao n ca zs) (N : Nat) (hn : n ≤ N) (hN : N ≤ 100000) : Ent.Ok w ⟨.agg #[.bool nb, .slice ao n ca], sgd nb zs, N, false⟩ := by
  refine ⟨nb, ao, n, ca, rfl, ⟨⟨zs, h, rfl⟩, by omega⟩, hn, ?_, fun e => by cases e⟩
  simp only
  rw [sgd_natAbs h.wf]
  have h1 := num_lt h.wf
  have h2 := num_nonneg h.wf
  rw [h.len] at h1
  have h3 : ((num zs).toNat : Int) < ((4294967296 ^ n : Nat) : Int) := by rw [Int.toNat_of_nonneg h2, Int.natCast_pow]; exact h1
  exact Nat.lt_of_lt_of_le (Int.ofNat_lt.1 h3) (pow_le hn)

end Go.Proofs.YtolghagbpnjpgaaGreatDoor
