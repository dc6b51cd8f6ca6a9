import Derived.Test.YtolghagbpnjpgaaGreatDoorFExactU4
import Derived.Deep.QuietTactic
import Derived.BigQuiet
import Derived.Laws.Bits64
import Derived.Deep.RegionHeld3
import Derived.Test.YtolghagbpnjpgaaGreatDoorFExactU0
import Derived.Test.YtolghagbpnjpgaaGreatDoorFExactU2
import Derived.Laws.Bits64b
namespace Go.Proofs.YtolghagbpnjpgaaGreatDoor
open Go.RowKit

theorem splice_zero (n : Nat) (zs : List Int) : splice (List.replicate n 0) 0 zs = zs ++ List.replicate (n - zs.length) 0 := by
  simp [splice]

theorem num_zeros (a n : Nat) : num (limbs a ++ List.replicate n 0) = a := by
  rw [num_append, num_limbs, num_replicate]; omega

theorem sum_fits {a b n m : Nat} (ha : (limbs a).length = n) (hb : (limbs b).length = m) (h : m ≤ n) : (a : Int) + b < 4294967296 ^ (n + 1) := by
  have h1 := limbs_lt a
  have h2 := (limbs_len_le b n).1 (by omega)
  have h3 : (b : Int) < 4294967296 ^ n := by
    have h4 : ((b : Nat) : Int) < ((4294967296 ^ n : Nat) : Int) := Int.ofNat_lt.2 h2
    rw [Int.natCast_pow] at h4
    exact h4
  rw [ha] at h1
  rw [Int.pow_succ]
  omega

set_option maxRecDepth 100000 in
set_option maxHeartbeats 1000000 in
/-- the longer one first -/
theorem plus_ge (a b : Nat) (ao bo : Option Addr) (n m ca cb : Nat) (w : World) (ha : Sl w ao n ca (limbs a)) (hb : Sl w bo m cb (limbs b)) (hmn : m ≤ n) (hn : n ≤ 1000000000000) :
    Calls Tryz.prog 202 #[.slice ao n ca, .slice bo m cb] w fun e w' => ∃ ao' k cap, e = .returned (.slice ao' k cap) ∧ Sl w' ao' k cap (limbs (a + b)) ∧ Below w.heap.size w w' := by
  go_enter Tryz.func202, Tryz.ntmps202
  go_wp2_with (refine wpList_make_u32 _ rfl _ _ rfl _ (n + 1) rfl rfl (by omega) (by omega) ?_)
  intro w1 hb1 hw1
  go_wp2_with (with_reducible refine wpList_copy_u32 rfl (.tmp 17) (.tmp 18) rfl Tryz.underlying29 Tryz.sizeU32 _ 0 (n + 1) (n + 1) ao n ca rfl rfl _ hb1 (limbs a) (ha.below hw1) (by omega) (by simp) ?_)
  intro w2 hb2 hw2
  have hw2' := hw1.trans (hw2.below (Nat.le_refl _))
  rw [splice_zero, ha.len, show n + 1 - n = 1 by omega] at hb2
  have hst := hb.cells.stay_below hw2' (Nat.le_refl _)
  have hbl := hb.len
  have hal := ha.len
  have hadd := addTo_any w.heap.size (n + 1) (n + 1) m cb bo (limbs a ++ List.replicate 1 0) (limbs b) w2 hb2 (by simp [hal]) ((Wf.limbs a).append (Wf.replicate 1)) (by omega) hbl (Wf.limbs b) (by omega) hst
    (by rw [num_zeros, num_limbs]; exact sum_fits hal hbl hmn)
  rw [num_zeros, num_limbs] at hadd
  have HADD := Lib.hid hadd
  clear hadd hst hb2 hb1 hbl hal
  go_wp2_with (go_at_call 217; refine HADD.out.mono ?_; rintro e w3 ⟨rfl, L', hb3, hl3, hwf3, hnum, ho3⟩; have HL3 := Lib.hid hl3; clear hl3; have HN := Lib.hid hnum; clear hnum)
  refine (trim_sl _ _ _ L' w3 (hb3.sl hwf3 HL3.out (by omega) (Nat.le_refl _))).mono ?_
  rintro e w4 ⟨k, rfl, hs, rfl⟩
  go_wp2
  go_ret
  refine ⟨_, k, _, rfl, ?_, hw2'.trans (ho3.below (Nat.le_refl _))⟩
  rw [HN.out, show ((a : Int) + b).toNat = a + b by omega] at hs
  exact hs
set_option maxRecDepth 100000 in
set_option maxHeartbeats 1000000 in
/-- the shorter one first -/
theorem plus_lt (a b : Nat) (ao bo : Option Addr) (n m ca cb : Nat) (w : World) (ha : Sl w ao n ca (limbs a)) (hb : Sl w bo m cb (limbs b)) (hmn : n < m) (hn : m ≤ 1000000000000) :
    Calls Tryz.prog 202 #[.slice ao n ca, .slice bo m cb] w fun e w' => ∃ ao' k cap, e = .returned (.slice ao' k cap) ∧ Sl w' ao' k cap (limbs (a + b)) ∧ Below w.heap.size w w' := by
  go_enter Tryz.func202, Tryz.ntmps202
  go_wp2_with (refine wpList_make_u32 _ rfl _ _ rfl _ (m + 1) rfl rfl (by omega) (by omega) ?_)
  intro w1 hb1 hw1
  go_wp2_with (with_reducible refine wpList_copy_u32 rfl (.tmp 17) (.tmp 18) rfl Tryz.underlying29 Tryz.sizeU32 _ 0 (m + 1) (m + 1) bo m cb rfl rfl _ hb1 (limbs b) (hb.below hw1) (by omega) (by simp) ?_)
  intro w2 hb2 hw2
  have hw2' := hw1.trans (hw2.below (Nat.le_refl _))
  rw [splice_zero, hb.len, show m + 1 - m = 1 by omega] at hb2
  have hst := ha.cells.stay_below hw2' (Nat.le_refl _)
  have hal := ha.len
  have hbl := hb.len
  have hadd := addTo_any w.heap.size (m + 1) (m + 1) n ca ao (limbs b ++ List.replicate 1 0) (limbs a) w2 hb2 (by simp [hbl]) ((Wf.limbs b).append (Wf.replicate 1)) (by omega) hal (Wf.limbs a) (by omega) hst
    (by rw [num_zeros, num_limbs]; exact sum_fits hbl hal (by omega))
  rw [num_zeros, num_limbs] at hadd
  have HADD := Lib.hid hadd
  clear hadd hst hb2 hb1 hal hbl
  go_wp2_with (go_at_call 217; refine HADD.out.mono ?_; rintro e w3 ⟨rfl, L', hb3, hl3, hwf3, hnum, ho3⟩; have HL3 := Lib.hid hl3; clear hl3; have HN := Lib.hid hnum; clear hnum)
  refine (trim_sl _ _ _ L' w3 (hb3.sl hwf3 HL3.out (by omega) (Nat.le_refl _))).mono ?_
  rintro e w4 ⟨k, rfl, hs, rfl⟩
  go_wp2
  go_ret
  refine ⟨_, k, _, rfl, ?_, hw2'.trans (ho3.below (Nat.le_refl _))⟩
  rw [HN.out, show ((b : Int) + a).toNat = a + b by omega] at hs
  exact hs
/-- the sum -/
theorem plus_any (a b : Nat) (ao bo : Option Addr) (n m ca cb : Nat) (w : World) (ha : Sl w ao n ca (limbs a)) (hb : Sl w bo m cb (limbs b)) (hn : n ≤ 1000000000000) (hm : m ≤ 1000000000000) :
    Calls Tryz.prog 202 #[.slice ao n ca, .slice bo m cb] w fun e w' => ∃ ao' k cap, e = .returned (.slice ao' k cap) ∧ Sl w' ao' k cap (limbs (a + b)) ∧ Below w.heap.size w w' := by
  by_cases h : n < m
  · exact plus_lt a b ao bo n m ca cb w ha hb h hm
  · exact plus_ge a b ao bo n m ca cb w ha hb (by omega) hn
end Go.Proofs.YtolghagbpnjpgaaGreatDoor

namespace Go.Proofs.YtolghagbpnjpgaaGreatDoor
open Go.RowKit

theorem Bg.only_box {w w' : World} {g : Nat} {nb mb : Bool} {ao ro : Option Addr} {n cap k cr : Nat} {x : Int} (h : Bg w mb ro k cr x) (hx : Box w g nb ao n cap) (ho : Only g w w') : Bg w' mb ro k cr x := by
  obtain ⟨⟨zs, h1, h2⟩, h3⟩ := h
  exact ⟨⟨zs, h1.only_box hx ho, h2⟩, h3⟩
theorem Bn.only_box {w w' : World} {g : Nat} {nb mb : Bool} {ao ro : Option Addr} {n cap k cr : Nat} {x : Int} (h : Bn w mb ro k cr x) (hx : Box w g nb ao n cap) (ho : Only g w w') : Bn w' mb ro k cr x :=
  ⟨h.neg, h.sl.only_box hx ho⟩

end Go.Proofs.YtolghagbpnjpgaaGreatDoor

namespace Go.Proofs.YtolghagbpnjpgaaGreatDoor
open Go.RowKit

/-- the first k rows of the product are in Lk, and nothing stands above them -/
def PRows (a b Lk : List Int) (n k : Nat) : Prop :=
  Lk.length = n + b.length ∧ Wf Lk ∧ num Lk = num a * num (b.take k) ∧ ∀ i, n + k ≤ i → Lk.getD i 0 = 0

theorem getD_replicate (n i : Nat) : (List.replicate n (0 : Int)).getD i 0 = 0 := by
  by_cases h : i < n <;> simp [List.getD, h]

theorem PRows.start (a b : List Int) (n m : Nat) (hm : b.length = m) : PRows a b (List.replicate (n + m) 0) n 0 :=
  ⟨by simp [hm], Wf.replicate _, by simp [num_replicate, num], fun i _ => getD_replicate _ i⟩

theorem mul_bounds {x y : Int} (x0 : 0 ≤ x) (x1 : x < 4294967296) (y0 : 0 ≤ y) (y1 : y < 4294967296) : 0 ≤ x * y ∧ x * y ≤ 18446744065119617025 := by
  refine ⟨Int.mul_nonneg x0 y0, ?_⟩
  have h1 : x * y ≤ 4294967295 * y := Int.mul_le_mul_of_nonneg_right (by omega) y0
  omega

theorem row_step (k j : Nat) (x y N : Int) : 4294967296 ^ k * (x * N) + 4294967296 ^ (k + j) * (x * y) = 4294967296 ^ k * (x * (N + 4294967296 ^ j * y)) := by
  rw [Int.pow_add, Int.mul_add, Int.mul_add, Int.mul_assoc, Int.mul_left_comm (4294967296 ^ j) x y]

theorem getD_of_drop_le {zs ys : List Int} {k i : Nat} (h : zs.drop k = ys.drop k) (hi : k ≤ i) : zs.getD i 0 = ys.getD i 0 := by
  have := congrArg (fun l => l.getD (i - k) 0) h
  simpa [List.getD, show k + (i - k) = i by omega] using this

theorem PRows.step {a b Lk L' : List Int} {n k : Nat} {x : Int} {i : Nat} (h : PRows a b Lk n k) (st : Added Lk L' (i + 1) 0 (4294967296 ^ k * (x * num a))) (hi : i = k + n) (hk : k < b.length) (hx : b.getD k 0 = x) :
    PRows a b L' n (k + 1) := by
  obtain ⟨h1, h2, h3, h4⟩ := h
  refine ⟨by rw [st.1, h1], st.2.1, ?_, ?_⟩
  · rw [st.done, h3, num_take_succ b k hk, hx, Int.mul_add]
    congr 1
    rw [Int.mul_comm x, Int.mul_left_comm]
  · intro j hj
    rw [getD_of_drop_le st.2.2.1 (by omega)]
    exact h4 j (by omega)

end Go.Proofs.YtolghagbpnjpgaaGreatDoor

namespace Go.Proofs.YtolghagbpnjpgaaGreatDoor
open Go.RowKit

set_option maxRecDepth 100000 in
set_option maxHeartbeats 2000000 in
theorem norm_any (nb : Bool) (ao : Option Addr) (n cap : Nat) (x : Int) (w : World) (h : Bg w nb ao n cap x) :
    Calls Tryz.prog 190 #[.agg #[.bool nb, .slice ao n cap]] w fun e w' => ∃ nr ro k cr, e = .returned (.agg #[.bool nr, .slice ro k cr]) ∧ Bn w' nr ro k cr x ∧ Below w.heap.size w w' := by
  obtain ⟨⟨zs, hs, hx⟩, hsm⟩ := h
  have hx' := Lib.hid hx; clear hx
  go_enter Tryz.func190, Tryz.ntmps190
  go_wp2_with fail
  obtain ⟨W, hW, hB, hbx, hrx, hz⟩ := boxes1 w nb ao n cap
  rw [← hW]
  clear hW
  have hs0 := hs.below hB
  generalize hBe : w.heap.size = B at *
  have HBe := Lib.hid hBe; clear hBe
  have hBelow := Lib.hid hB
  clear hs hB
  have k0 := hbx.c0
  have k1 := hbx.c1
  go_region_held3 (fun w' => w'.cell? ⟨B, 0, none⟩ = some (.bool nb) ∧ w'.cell? ⟨B, 1, none⟩ = some (.slice ao n cap))
    (first | exact ⟨k0, k1⟩ | exact ⟨x2.c0, x2.c1⟩ | exact ⟨x3.c0, x3.c1⟩ | (refine ⟨?_, ?_⟩ <;> go_simp))
    (first
      | (go_at_call 147; refine (trim_sl ao n cap zs _ (by exact hs0.below ((Below.refl _ _).drew))).mono ?_; rintro e w1 ⟨k, rfl, hs1, rfl⟩)
      | (go_at_call 215; refine (clone_any _ _ _ _ _ hs1).mono ?_; rintro e w2 ⟨rfl, hb2, hw2⟩; have x2 := (hbx.below ((Below.refl _ _).drew)).below hw2; have y2 := (hrx.below ((Below.refl _ _).drew)).below hw2)
      | (go_at_call 188; refine (signed_any _ _ _ _ _ _ (hb2.sl (Wf.limbs _) hs1.len hs1.big (Nat.le_refl _))).mono ?_; rintro e w3 ⟨ro, cr, rfl, hs3, hw3⟩; have x3 := x2.below hw3; have y3 := y2.below hw3; have q0 := y3.c0; have q1 := y3.c1; have q2 := y3.f 0; have q3 := y3.f 1; have e0 := x3.c0; have e1 := x3.c1))
  have z3 := y3.stored (nb && decide (0 < k)) ro k cr
  have z0 := z3.c0
  have z1 := z3.c1
  go_wp2
  refine bodyPost_ret (v := .agg #[.bool (nb && decide (0 < k)), .slice ro k cr]) (by simp [results, Tryz.results190, go_sem, z0, z1]) rfl ⟨_, ro, k, cr, rfl, ?_, ?_⟩
  · refine bn_of (hs3.only_box y3 (only_set2 _ _ _ _)) rfl ?_
    rw [hx'.out, Int.toNat_of_nonneg (num_nonneg hs0.wf)]; rfl
  · obtain ⟨b1, l1⟩ := bnext hBelow.out (by omega) (Below.refl _ W).drew
    obtain ⟨b2, l2⟩ := bnext b1 l1 hw2
    obtain ⟨b3, l3⟩ := bnext b2 l2 hw3
    rw [HBe.out]
    exact b3.trans ((only_set2 _ _ _ _).below (by omega))
end Go.Proofs.YtolghagbpnjpgaaGreatDoor

namespace Go.Proofs.YtolghagbpnjpgaaGreatDoor
open Go.RowKit

theorem num_two (v : Int) : num [v % 4294967296, v / 4294967296] = v := by simp only [num]; omega

set_option maxRecDepth 100000 in
set_option maxHeartbeats 1000000 in
theorem fromWord_any (v : Int) (w : World) (h0 : 0 ≤ v) (h1 : v ≤ 18446744073709551615) :
    Calls Tryz.prog 189 #[.int .u64 v] w fun e w' => ∃ ro k cr, e = .returned (.slice ro k cr) ∧ Sl w' ro k cr (limbs v.toNat) ∧ Below w.heap.size w w' := by
  go_enter Tryz.func189, Tryz.ntmps189
  go_wp2_with fail
  have hb : Blk (w.alloc (.cells #[.int .u32 (v % 4294967296), .int .u32 (v / 4294967296)] 96)) w.heap.size [v % 4294967296, v / 4294967296] := heap_alloc_new w _
  refine (trim_sl _ _ _ _ _ (hb.sl (n := 2) (Wf.cons (by omega) (Wf.cons (by omega) Wf.nil)) rfl (by omega) (Nat.le_refl _))).mono ?_
  rintro e w4 ⟨k, rfl, hs, rfl⟩
  rw [num_two] at hs
  go_wp2
  go_ret
  exact ⟨_, k, _, rfl, hs, (Below.refl _ w).alloc (Nat.le_refl _) _⟩

set_option maxRecDepth 100000 in
set_option maxHeartbeats 1000000 in
theorem fromInt_any (x : Int) (w : World) (h0 : -9223372036854775808 ≤ x) (h1 : x ≤ 9223372036854775807) :
    Calls Tryz.prog 144 #[.int .i64 x] w fun e w' => ∃ nr ro k cr, e = .returned (.agg #[.bool nr, .slice ro k cr]) ∧ Bn w' nr ro k cr x ∧ Below w.heap.size w w' := by
  by_cases hx : x < 0
  · go_enter Tryz.func144, Tryz.ntmps144
    go_wp2_with fail
    rw [show IntKind.u64.wrap (-IntKind.u64.wrap x) = -x from by rw [IntKind.wrap_u64, IntKind.wrap_u64]; omega]
    have hrx := Box.new w false none 0 0
    have hB := (Below.refl w.heap.size w).alloc (Nat.le_refl _) (.cells #[.bool false, .slice none 0 0] 31)
    have hz : w.heap.size + 1 ≤ (w.alloc (.cells #[.bool false, .slice none 0 0] 31)).heap.size := by simp
    generalize w.alloc (.cells #[.bool false, .slice none 0 0] 31) = W at *
    refine (fromWord_any (-x) W (by omega) (by omega)).mono ?_
    rintro e w2 ⟨ro, k, cr, rfl, hs, hw2⟩
    have y2 := hrx.below hw2
    go_wp2_with fail
    refine (signed_any _ _ _ _ _ _ hs).mono ?_
    rintro e w3 ⟨ro', cr', rfl, hs3, hw3⟩
    have y3 := y2.below hw3
    obtain ⟨b2, l2⟩ := bnext hB (by omega) hw2
    obtain ⟨b3, l3⟩ := bnext b2 l2 hw3
    generalize hBe : w.heap.size = B at *
    have HBe := Lib.hid hBe; clear hBe
    have z2 := hw2.size
    have z3' := hw3.size
    clear hrx hB hw2 hw3 y2 hs b2 l2
    have q0 := y3.c0
    have q1 := y3.c1
    have q2 := y3.f 0
    have q3 := y3.f 1
    have z3 := y3.stored (true && decide (0 < k)) ro' k cr'
    have z0 := z3.c0
    have z1 := z3.c1
    simp only [Bool.true_and] at z0 z1
    go_wp2
    refine bodyPost_ret (v := .agg #[.bool (true && decide (0 < k)), .slice ro' k cr']) (by simp [results, Tryz.results144, go_sem, z0, z1]) rfl ⟨_, ro', k, cr', rfl, ?_, ?_⟩
    · refine bn_of (nb := true) (Sl.only_box hs3 y3 (only_set2 _ _ _ _)) rfl ?_
      simp; omega
    · rw [HBe.out]
      exact b3.trans ((only_set2 _ _ _ _).below (by omega))
  · go_enter Tryz.func144, Tryz.ntmps144
    go_wp2_with fail
    have hrx := Box.new w false none 0 0
    have hB := (Below.refl w.heap.size w).alloc (Nat.le_refl _) (.cells #[.bool false, .slice none 0 0] 31)
    have hz : w.heap.size + 1 ≤ (w.alloc (.cells #[.bool false, .slice none 0 0] 31)).heap.size := by simp
    generalize w.alloc (.cells #[.bool false, .slice none 0 0] 31) = W at *
    refine (fromWord_any x W (by omega) (by omega)).mono ?_
    rintro e w2 ⟨ro, k, cr, rfl, hs, hw2⟩
    have y2 := hrx.below hw2
    go_wp2_with fail
    refine (signed_any _ _ _ _ _ _ hs).mono ?_
    rintro e w3 ⟨ro', cr', rfl, hs3, hw3⟩
    have y3 := y2.below hw3
    obtain ⟨b2, l2⟩ := bnext hB (by omega) hw2
    obtain ⟨b3, l3⟩ := bnext b2 l2 hw3
    generalize hBe : w.heap.size = B at *
    have HBe := Lib.hid hBe; clear hBe
    have z2 := hw2.size
    have z3' := hw3.size
    clear hrx hB hw2 hw3 y2 hs b2 l2
    have q0 := y3.c0
    have q1 := y3.c1
    have q2 := y3.f 0
    have q3 := y3.f 1
    have z3 := y3.stored (false && decide (0 < k)) ro' k cr'
    have z0 := z3.c0
    have z1 := z3.c1
    simp only [Bool.false_and] at z0 z1
    go_wp2
    refine bodyPost_ret (v := .agg #[.bool (false && decide (0 < k)), .slice ro' k cr']) (by simp [results, Tryz.results144, go_sem, z0, z1]) rfl ⟨_, ro', k, cr', rfl, ?_, ?_⟩
    · refine bn_of (nb := false) (Sl.only_box hs3 y3 (only_set2 _ _ _ _)) rfl ?_
      simp; omega
    · rw [HBe.out]
      exact b3.trans ((only_set2 _ _ _ _).below (by omega))
end Go.Proofs.YtolghagbpnjpgaaGreatDoor

namespace Go.Proofs.YtolghagbpnjpgaaGreatDoor
open Go.RowKit

/-- later, with all that was there as it was -/
def Ext (w w' : World) : Prop := Below w.heap.size w w'
theorem Ext.refl (w : World) : Ext w w := Below.refl _ _
theorem Ext.trans {a b c : World} (h : Ext a b) (k : Ext b c) : Ext a c := Below.trans h (Below.mono k h.size)

/-- a value, the number that it stands for, how many limbs it has at most, is it normalized -/
structure Ent where
  v : Value
  x : Int
  N : Nat
  c : Bool

def Ent.Ok (w : World) (p : Ent) : Prop :=
  ∃ nb ao n ca, p.v = .agg #[.bool nb, .slice ao n ca] ∧ Bg w nb ao n ca p.x ∧ n ≤ p.N ∧ p.x.natAbs < 4294967296 ^ p.N ∧ (p.c = true → Bn w nb ao n ca p.x)

theorem Ent.Ok.ext {w w' : World} {p : Ent} (h : p.Ok w) (he : Ext w w') : p.Ok w' := by
  obtain ⟨nb, ao, n, ca, h1, h2, h3, h4, h5⟩ := h
  exact ⟨nb, ao, n, ca, h1, h2.below he, h3, h4, fun e => (h5 e).below he⟩

/-- what is at hand -/
structure St (W w : World) (L : List Ent) : Prop where
  ext : Ext W w
  bag : ∀ p ∈ L, p.Ok w

theorem St.step {W w w' : World} {L : List Ent} (h : St W w L) (he : Ext w w') : St W w' L := ⟨h.ext.trans he, fun p hp => (h.bag p hp).ext he⟩
theorem St.drew {W w : World} {L : List Ent} (h : St W w L) : St W w.drew L := h.step (Below.refl _ _).drew
theorem St.drewN {W w : World} {L : List Ent} (h : St W w L) (q : Nat) : St W (w.drewN q) L := h.step (below_drewN (Below.refl _ _) q)

theorem len_of_lt {x : Int} {N : Nat} (h : x.natAbs < 4294967296 ^ N) : (limbs x.natAbs).length ≤ N := (limbs_len_le _ _).2 h

theorem pow_le {a b : Nat} (h : a ≤ b) : 4294967296 ^ a ≤ 4294967296 ^ b := Nat.pow_le_pow_right (by omega) h

theorem abs_add {x y : Int} {N M : Nat} (hx : x.natAbs < 4294967296 ^ N) (hy : y.natAbs < 4294967296 ^ M) : (x + y).natAbs < 4294967296 ^ (max N M + 1) := by
  have h1 := Nat.lt_of_lt_of_le hx (pow_le (Nat.le_max_left N M))
  have h2 := Nat.lt_of_lt_of_le hy (pow_le (Nat.le_max_right N M))
  have h3 := Int.natAbs_add_le x y
  rw [Nat.pow_succ]
  omega
theorem abs_sub {x y : Int} {N M : Nat} (hx : x.natAbs < 4294967296 ^ N) (hy : y.natAbs < 4294967296 ^ M) : (x - y).natAbs < 4294967296 ^ (max N M + 1) := by
  have := abs_add hx (y := -y) (M := M) (by rw [Int.natAbs_neg]; exact hy)
  rwa [← Int.sub_eq_add_neg] at this
section
variable {W w : World} {L : List Ent} {u v : Value} {x y : Int} {N M : Nat} {c d : Bool}

end

/-- a small raw argument -/
theorem ok_raw {w : World} {nb : Bool} {ao : Option Addr} {n ca : Nat} {zs : List Int} (h : Sl w ao n ca zs) (N : Nat) (hn : n ≤ N) (hN : N ≤ 100000) : Ent.Ok w ⟨.agg #[.bool nb, .slice ao n ca], sgd nb zs, N, false⟩ := by
  refine ⟨nb, ao, n, ca, rfl, ⟨⟨zs, h, rfl⟩, by omega⟩, hn, ?_, fun e => by cases e⟩
  simp only
  rw [sgd_natAbs h.wf]
  have h1 := num_lt h.wf
  have h2 := num_nonneg h.wf
  rw [h.len] at h1
  have h3 : ((num zs).toNat : Int) < ((4294967296 ^ n : Nat) : Int) := by rw [Int.toNat_of_nonneg h2, Int.natCast_pow]; exact h1
  exact Nat.lt_of_lt_of_le (Int.ofNat_lt.1 h3) (pow_le hn)

end Go.Proofs.YtolghagbpnjpgaaGreatDoor

namespace Go.Proofs.YtolghagbpnjpgaaGreatDoor

theorem lt_or_ge_int (a b : Int) : a < b ∨ b ≤ a := by omega

/-- the dividend u and the divisor v by their leading limbs: B is the weight of what is below -/
structure Lead (u v top w2 f s B : Int) : Prop where
  bpos : 0 < B
  u0 : (top * 4294967296 + w2) * B ≤ u
  u1 : u < (top * 4294967296 + w2 + 1) * B
  v0 : (f * 4294967296 + s) * B ≤ v
  v1 : v < (f * 4294967296 + s + 1) * B
  t0 : 0 ≤ top
  w0 : 0 ≤ w2
  w1 : w2 < 4294967296
  s0 : 0 ≤ s
  s1 : s < 4294967296
  f0 : 2147483648 ≤ f
  f1 : f < 4294967296
  uv : u < v * 4294967296

/-- q is not too small, and r is what it leaves of the first limbs -/
structure Est (u v top f q r : Int) : Prop where
  qr : q * f + r = top
  r0 : 0 ≤ r
  q0 : 0 ≤ q
  ge : u / v ≤ q

theorem Lead.vpos {u v top w2 f s B : Int} (h : Lead u v top w2 f s B) : 0 < v := by
  have h1 : 0 < (f * 4294967296 + s) * B := Int.mul_pos (by have := h.f0; have := h.s0; omega) h.bpos
  have := h.v0
  omega

theorem Lead.unonneg {u v top w2 f s B : Int} (h : Lead u v top w2 f s B) : 0 ≤ u := by
  have h1 : 0 ≤ (top * 4294967296 + w2) * B := Int.mul_nonneg (by have := h.t0; have := h.w0; omega) (Int.le_of_lt h.bpos)
  have := h.u0
  omega

theorem Lead.qlt {u v top w2 f s B : Int} (h : Lead u v top w2 f s B) : u / v < 4294967296 :=
  Int.ediv_lt_of_lt_mul h.vpos (by rw [Int.mul_comm]; exact h.uv)

theorem Lead.start {u v top w2 f s B : Int} (h : Lead u v top w2 f s B) : Est u v top f (top / f) (top % f) := by
  have hf : 0 < f := by have := h.f0; omega
  refine ⟨by rw [Int.mul_comm]; exact Int.mul_ediv_add_emod top f, Int.emod_nonneg _ (by omega), Int.ediv_nonneg h.t0 (by omega), ?_⟩
  rw [Int.le_ediv_iff_mul_le hf]
  have hQ : u / v * v ≤ u := Int.ediv_mul_le u (by have := h.vpos; omega)
  have hQ0 : 0 ≤ u / v := Int.ediv_nonneg h.unonneg (Int.le_of_lt h.vpos)
  generalize u / v = Q at *
  rcases lt_or_ge_int top (Q * f) with hlt | hle
  · exfalso
    -- Q v ≥ Q f R B ≥ (top + 1) R B > u
    have a1 : (top + 1) * (4294967296 * B) ≤ Q * f * (4294967296 * B) := Int.mul_le_mul_of_nonneg_right (by omega) (by have := h.bpos; omega)
    have a2 : Q * ((f * 4294967296 + s) * B) ≤ Q * v := Int.mul_le_mul_of_nonneg_left h.v0 hQ0
    have a3 : Q * ((f * 4294967296 + s) * B) = Q * f * (4294967296 * B) + Q * (s * B) := by
      rw [Int.add_mul, Int.mul_add, Int.mul_assoc f, ← Int.mul_assoc Q f]
    have a4 : 0 ≤ Q * (s * B) := Int.mul_nonneg hQ0 (Int.mul_nonneg h.s0 (Int.le_of_lt h.bpos))
    have a5 : (top * 4294967296 + w2 + 1) * B ≤ (top + 1) * (4294967296 * B) := by
      rw [← Int.mul_assoc]
      exact Int.mul_le_mul_of_nonneg_right (by have := h.w1; omega) (Int.le_of_lt h.bpos)
    have := h.u1
    omega
  · exact hle

theorem Lead.lower {u v top w2 f s B q r : Int} (h : Lead u v top w2 f s B) (e : Est u v top f q r) (hc : 4294967295 < q ∨ r * 4294967296 + w2 < q * s) : u / v ≤ q - 1 := by
  rcases hc with hc | hc
  · have := h.qlt; omega
  · have hge := e.ge
    have hQ : u / v * v ≤ u := Int.ediv_mul_le u (by have := h.vpos; omega)
    rcases lt_or_ge_int (u / v) q with h1 | h1
    · omega
    · exfalso
      have hq : u / v = q := by omega
      rw [hq] at hQ
      have a2 : q * ((f * 4294967296 + s) * B) ≤ q * v := Int.mul_le_mul_of_nonneg_left h.v0 e.q0
      have a3 : q * ((f * 4294967296 + s) * B) = (q * f * 4294967296 + q * s) * B := by
        rw [← Int.mul_assoc, Int.mul_add, ← Int.mul_assoc q f]
      have a4 : (top * 4294967296 + w2 + 1) * B ≤ (q * f * 4294967296 + q * s) * B := by
        refine Int.mul_le_mul_of_nonneg_right ?_ (Int.le_of_lt h.bpos)
        have := e.qr
        omega
      have := h.u1
      omega

theorem Lead.step {u v top w2 f s B q r : Int} (h : Lead u v top w2 f s B) (e : Est u v top f q r) (hc : 4294967295 < q ∨ r * 4294967296 + w2 < q * s) : Est u v top f (q - 1) (r + f) := by
  have h1 := h.lower e hc
  have hQ0 : 0 ≤ u / v := Int.ediv_nonneg h.unonneg (Int.le_of_lt h.vpos)
  refine ⟨?_, by have := e.r0; have := h.f0; omega, by omega, h1⟩
  have := e.qr
  rw [Int.sub_mul]
  omega

theorem Lead.out {u v top w2 f s B q r : Int} (h : Lead u v top w2 f s B) (e : Est u v top f q r) (hc : 4294967295 < r ∨ (q ≤ 4294967295 ∧ q * s ≤ r * 4294967296 + w2)) : q ≤ 4294967295 ∧ q ≤ u / v + 1 := by
  have hv := h.vpos
  -- the first limbs of u are less than those of v, times the base
  have htop : top ≤ f * 4294967296 + 4294967295 := by
    rcases lt_or_ge_int (f * 4294967296 + 4294967295) top with h1 | h1
    · exfalso
      have a1 : (f * 4294967296 + s + 1) * B * 4294967296 ≤ (top * 4294967296 + w2) * B := by
        rw [Int.mul_assoc, Int.mul_comm B, ← Int.mul_assoc]
        exact Int.mul_le_mul_of_nonneg_right (by have := h.s1; have := h.w0; omega) (Int.le_of_lt h.bpos)
      have a2 : v * 4294967296 ≤ (f * 4294967296 + s + 1) * B * 4294967296 := Int.mul_le_mul_of_nonneg_right (Int.le_of_lt h.v1) (by omega)
      have := h.u0
      have := h.uv
      omega
    · exact h1
  have hqr := e.qr
  have hr0 := e.r0
  have hq0 := e.q0
  have hf0 := h.f0
  have hs0 := h.s0
  have hs1 := h.s1
  have hw0 := h.w0
  have hq : q ≤ 4294967295 := by
    rcases hc with hc | hc
    · rcases lt_or_ge_int 4294967295 q with h1 | h1
      · exfalso
        have := Int.mul_le_mul_of_nonneg_right (show 4294967296 ≤ q by omega) (show 0 ≤ f by omega)
        omega
      · exact h1
    · exact hc.1
  refine ⟨hq, ?_⟩
  -- (q - 1) v ≤ u
  suffices hs : (q - 1) * v ≤ u by
    have := (Int.le_ediv_iff_mul_le hv).2 hs
    omega
  rcases lt_or_ge_int q 1 with h1 | h1
  · have : (q - 1) * v ≤ 0 := by
      have := Int.mul_le_mul_of_nonneg_right (show q - 1 ≤ 0 by omega) (Int.le_of_lt hv)
      omega
    have := h.unonneg
    omega
  · have hB := h.bpos
    rcases hc with hc | ⟨_, hc⟩
    · have b1 : (q - 1) * v ≤ (q - 1) * ((f * 4294967296 + s + 1) * B) := Int.mul_le_mul_of_nonneg_left (Int.le_of_lt h.v1) (by omega)
      have b2 : (q - 1) * ((f * 4294967296 + s + 1) * B) = ((q - 1) * (f * 4294967296 + s + 1)) * B := by rw [Int.mul_assoc]
      have b3 : (q - 1) * (f * 4294967296 + s + 1) ≤ top * 4294967296 + w2 := by
        have c1 : (q - 1) * (f * 4294967296 + s + 1) = q * f * 4294967296 - f * 4294967296 + (q - 1) * (s + 1) := by
          rw [Int.add_assoc, Int.mul_add, ← Int.mul_assoc, Int.sub_mul, Int.one_mul, Int.sub_mul]
        have c2 : (q - 1) * (s + 1) ≤ 4294967294 * (s + 1) := Int.mul_le_mul_of_nonneg_right (by omega) (by omega)
        omega
      have b4 := Int.mul_le_mul_of_nonneg_right b3 (Int.le_of_lt hB)
      have := h.u0
      omega
    · have b1 : q * v ≤ q * ((f * 4294967296 + s + 1) * B) := Int.mul_le_mul_of_nonneg_left (Int.le_of_lt h.v1) (by omega)
      have b2 : q * ((f * 4294967296 + s + 1) * B) = (q * f * 4294967296 + q * s) * B + q * B := by
        rw [← Int.mul_assoc, Int.mul_add, Int.mul_add, Int.mul_one, ← Int.mul_assoc q f, Int.add_mul (_ + _) q B]
      have b3 : (q * f * 4294967296 + q * s) * B ≤ (top * 4294967296 + w2) * B := by
        refine Int.mul_le_mul_of_nonneg_right ?_ (Int.le_of_lt hB)
        omega
      have b4 : q * B ≤ (f * 4294967296 + s) * B := Int.mul_le_mul_of_nonneg_right (by omega) (Int.le_of_lt hB)
      have := h.u0
      have := h.v0
      have e1 : (q - 1) * v = q * v - v := by rw [Int.sub_mul, Int.one_mul]
      omega

end Go.Proofs.YtolghagbpnjpgaaGreatDoor

namespace Go.Proofs.YtolghagbpnjpgaaGreatDoor
open Go.RowKit

theorem and_mask {a : Int} (h0 : 0 ≤ a) (h1 : a < 18446744073709551616) : bits BinOp.and IntKind.u64 a 4294967295 = a % 4294967296 := by
  obtain ⟨n, rfl⟩ := Int.eq_ofNat_of_zero_le h0
  have e := bits_and_u64_nat n 4294967295 (by omega) (by omega)
  have e2 : n &&& 4294967295 = n % 4294967296 := by
    have := Nat.and_two_pow_sub_one_eq_mod n 32
    simpa using this
  rw [e2] at e
  rw [show ((4294967295 : Nat) : Int) = 4294967295 from rfl] at e
  rw [e]
  omega

theorem num_drop' (zs : List Int) (j : Nat) (h : j < zs.length) : num (zs.drop j) = zs.getD j 0 + 4294967296 * num (zs.drop (j + 1)) := by
  rw [List.drop_eq_getElem_cons h, ← getD_at h]; rfl

end Go.Proofs.YtolghagbpnjpgaaGreatDoor
