import Derived.Test.YthicfkeiggcjjaaGreatDoorEcDlU6
import Derived.Test.YthicfkeiggcjjaaGreatDoorEcDlU3
import Derived.Test.YthicfkeiggcjjaaGreatDoorEcDlU4
import Derived.Deep.RegionHeld3
import Derived.Laws.Bits64
import Derived.Deep.QuietTactic
import Derived.BigQuiet
import Derived.Test.YthicfkeiggcjjaaGreatDoorEcDlU2
import Derived.Laws.Bits64b
namespace Go.Proofs.YthicfkeiggcjjaaGreatDoor
open Go.RowKit

theorem Bg.not {w : World} {nb : Bool} {ao : Option Addr} {n cap : Nat} {x : Int} (h : Bg w nb ao n cap x) : Bg w (!nb) ao n cap (-x) := by
  obtain ⟨⟨zs, h1, h2⟩, h3⟩ := h
  refine ⟨⟨zs, h1, ?_⟩, h3⟩
  rw [h2]
  unfold sgd
  cases nb <;> simp
theorem Bg.only_box {w w' : World} {g : Nat} {nb mb : Bool} {ao ro : Option Addr} {n cap k cr : Nat} {x : Int} (h : Bg w mb ro k cr x) (hx : Box w g nb ao n cap) (ho : Only g w w') : Bg w' mb ro k cr x := by
  obtain ⟨⟨zs, h1, h2⟩, h3⟩ := h
  exact ⟨⟨zs, h1.only_box hx ho, h2⟩, h3⟩
theorem Bn.only_box {w w' : World} {g : Nat} {nb mb : Bool} {ao ro : Option Addr} {n cap k cr : Nat} {x : Int} (h : Bn w mb ro k cr x) (hx : Box w g nb ao n cap) (ho : Only g w w') : Bn w' mb ro k cr x :=
  ⟨h.neg, h.sl.only_box hx ho⟩

set_option maxRecDepth 100000 in
set_option maxHeartbeats 2000000 in
theorem sub_any (nb mb : Bool) (ao : Option Addr) (n ca : Nat) (bo : Option Addr) (m cb : Nat) (x y : Int) (w : World) (ha : Bg w nb ao n ca x) (hb : Bg w mb bo m cb y) :
    Calls Tryz.prog 50 #[.agg #[.bool nb, .slice ao n ca], .agg #[.bool mb, .slice bo m cb]] w fun e w' => ∃ nr ro k cr, e = .returned (.agg #[.bool nr, .slice ro k cr]) ∧ Bn w' nr ro k cr (x - y) ∧ Below w.heap.size w w' := by
  go_enter Tryz.func50, Tryz.ntmps50
  go_wp2_with fail
  obtain ⟨W, hW, hB, hbx, hby, hrx, hz⟩ := boxes2 w nb ao n ca (!mb) bo m cb
  rw [← hW]
  clear hW
  refine (add_any nb (!mb) ao n ca bo m cb x (-y) W (ha.below hB) (hb.not.below hB)).mono ?_
  rintro e w2 ⟨nr, ro, k, cr, rfl, hr, hw2⟩
  have y2 := hrx.below hw2
  obtain ⟨b2, l2⟩ := bnext hB (by omega) hw2
  generalize hBe : w.heap.size = B at *
  have HBe := Lib.hid hBe; clear hBe
  have z2 := hw2.size
  clear hbx hby hrx hB hw2
  have q0 := y2.c0
  have q1 := y2.c1
  have q2 := y2.f 0
  have q3 := y2.f 1
  have z3 := y2.stored nr ro k cr
  have z0 := z3.c0
  have z1 := z3.c1
  go_wp2
  refine bodyPost_ret (v := .agg #[.bool nr, .slice ro k cr]) (by simp [results, Tryz.results50, go_sem, z0, z1]) rfl ⟨nr, ro, k, cr, rfl, ?_, ?_⟩
  · have := hr.only_box y2 (only_set2 w2 (B + 1 + 1) (.bool nr) (.slice ro k cr))
    rwa [← Int.sub_eq_add_neg] at this
  · rw [HBe.out]
    exact b2.trans ((only_set2 _ _ _ _).below (by omega))
end Go.Proofs.YthicfkeiggcjjaaGreatDoor

namespace Go.Proofs.YthicfkeiggcjjaaGreatDoor
open Go.RowKit

set_option maxRecDepth 100000 in
set_option maxHeartbeats 1000000 in
theorem times_any (a b : Nat) (ao bo : Option Addr) (n m ca cb : Nat) (w : World) (ha : Sl w ao n ca (limbs a)) (hb : Sl w bo m cb (limbs b)) (hn : n ≤ 1000000000) (hm : m ≤ 1000000000) (hs : n < 100 ∨ m < 100) :
    Calls Tryz.prog 68 #[.slice ao n ca, .slice bo m cb] w fun e w' => ∃ ao' k cap, e = .returned (.slice ao' k cap) ∧ Sl w' ao' k cap (limbs (a * b)) ∧ Below w.heap.size w w' := by
  by_cases hlt : n < m
  · have h100 : n < 100 := by omega
    clear hs
    go_enter Tryz.func68, Tryz.ntmps68
    go_wp2_with fail
    refine (long_any _ _ _ _ _ _ _ _ _ hb ha (by omega) (by omega)).mono ?_
    rintro e w2 ⟨ro, k, cr, rfl, hr, hw2⟩
    go_wp2
    go_ret
    refine ⟨ro, k, cr, rfl, ?_, hw2⟩
    rw [num_limbs, num_limbs] at hr
    have e : ((b : Int) * a).toNat = a * b := by rw [← Int.natCast_mul, Int.toNat_natCast, Nat.mul_comm]
    rwa [e] at hr
  · have h100 : m < 100 := by omega
    clear hs
    go_enter Tryz.func68, Tryz.ntmps68
    go_wp2_with fail
    refine (long_any _ _ _ _ _ _ _ _ _ ha hb (by omega) (by omega)).mono ?_
    rintro e w2 ⟨ro, k, cr, rfl, hr, hw2⟩
    go_wp2
    go_ret
    refine ⟨ro, k, cr, rfl, ?_, hw2⟩
    rw [num_limbs, num_limbs] at hr
    have e : ((a : Int) * b).toNat = a * b := by rw [← Int.natCast_mul, Int.toNat_natCast]
    rwa [e] at hr

theorem sgd_mul {nb mb : Bool} {zs ys : List Int} (hz : Wf zs) (hy : Wf ys) : sgd nb zs * sgd mb ys = if (nb != mb) then - (((num zs).toNat * (num ys).toNat : Nat) : Int) else (((num zs).toNat * (num ys).toNat : Nat) : Int) := by
  have a := num_nonneg hz
  have b := num_nonneg hy
  rw [Int.natCast_mul, Int.toNat_of_nonneg a, Int.toNat_of_nonneg b]
  unfold sgd
  cases nb <;> cases mb <;> simp [Int.neg_mul, Int.mul_neg]

set_option maxRecDepth 100000 in
set_option maxHeartbeats 4000000 in
theorem mul_any (nb mb : Bool) (ao : Option Addr) (n ca : Nat) (bo : Option Addr) (m cb : Nat) (x y : Int) (w : World) (ha : Bg w nb ao n ca x) (hb : Bg w mb bo m cb y) (h100 : n < 100 ∨ m < 100) :
    Calls Tryz.prog 47 #[.agg #[.bool nb, .slice ao n ca], .agg #[.bool mb, .slice bo m cb]] w fun e w' => ∃ nr ro k cr, e = .returned (.agg #[.bool nr, .slice ro k cr]) ∧ Bn w' nr ro k cr (x * y) ∧ Below w.heap.size w w' := by
  obtain ⟨⟨zs, hs, hx⟩, hsm⟩ := ha
  obtain ⟨⟨ys, hu, hy⟩, hum⟩ := hb
  have hwz := hs.wf
  have hwy := hu.wf
  have hx' := Lib.hid hx; clear hx
  have hy' := Lib.hid hy; clear hy
  have H100 := Lib.hid h100; clear h100
  go_enter Tryz.func47, Tryz.ntmps47
  go_wp2_with fail
  obtain ⟨W, hW, hB, hbx, hby, hrx, hz⟩ := boxes2 w nb ao n ca mb bo m cb
  rw [← hW]
  clear hW
  have hs0 := hs.below hB
  have hu0 := hu.below hB
  generalize hBe : w.heap.size = B at *
  have HBe := Lib.hid hBe; clear hBe
  have hBelow := Lib.hid hB
  clear hs hu hB
  obtain ⟨k1, hk1, hs1, ht1⟩ := trim_at _ _ _ _ _ hs0
  obtain ⟨k2, hk2, hu1, ht2⟩ := trim_at _ _ _ _ _ hu0
  generalize ea : (num zs).toNat = a at hs1
  generalize eb : (num ys).toNat = b at hu1
  have EA := Lib.hid ea; clear ea
  have EB := Lib.hid eb; clear eb
  have HT1 := Lib.hid ht1; clear ht1
  have HT2 := Lib.hid ht2; clear ht2
  have k0 := hbx.c0
  have k1' := hbx.c1
  have l0 := hby.c0
  have l1' := hby.c1
  go_region_held3 (fun w' => w'.cell? ⟨B, 0, none⟩ = some (.bool nb) ∧ w'.cell? ⟨B, 1, none⟩ = some (.slice ao n ca) ∧ w'.cell? ⟨B + 1, 0, none⟩ = some (.bool mb) ∧ w'.cell? ⟨B + 1, 1, none⟩ = some (.slice bo m cb))
    (first | exact ⟨k0, k1', l0, l1'⟩ | exact ⟨x2.c0, x2.c1, v2.c0, v2.c1⟩ | exact ⟨x3.c0, x3.c1, v3.c0, v3.c1⟩ | (refine ⟨?_, ?_, ?_, ?_⟩ <;> go_simp))
    (first
      | (go_at_call 51; first | ((with_reducible refine (HT1.out _ (by exact hs0.drew)).mono ?_); rintro e w1 ⟨rfl, rfl⟩) | ((with_reducible refine (HT2.out _ (by exact hu0.drew)).mono ?_); rintro e w1 ⟨rfl, rfl⟩))
      | (go_at_call 68; refine (times_any _ _ _ _ _ _ _ _ _ (by exact hs1.drew) (by exact hu1.drew) (by omega) (by omega) (by have := H100.out; omega)).mono ?_; rintro e w2 ⟨ro, k, cr, rfl, hp, hw2⟩; have x2 := hbx.drew.below hw2; have v2 := hby.drew.below hw2; have y2 := hrx.drew.below hw2)
      | (go_at_call 65; refine (signed_any _ _ _ _ _ _ (by exact hp)).mono ?_; rintro e w3 ⟨ro', cr', rfl, hs3, hw3⟩; have x3 := x2.below hw3; have v3 := v2.below hw3; have y3 := y2.below hw3; have q0 := y3.c0; have q1 := y3.c1; have q2 := y3.f 0; have q3 := y3.f 1; have e0 := x3.c0; have e1 := x3.c1; have e2 := v3.c0; have e3 := v3.c1))
  have z3 := y3.stored (!(nb == mb) && decide (0 < k)) ro' k cr'
  have z0 := z3.c0
  have z1 := z3.c1
  go_wp2
  refine bodyPost_ret (v := .agg #[.bool (!(nb == mb) && decide (0 < k)), .slice ro' k cr']) (by simp [results, Tryz.results47, go_sem, z0, z1]) rfl ⟨_, ro', k, cr', rfl, ?_, ?_⟩
  · refine bn_of (hs3.only_box y3 (only_set2 _ _ _ _)) rfl ?_
    have e := sgd_mul (nb := nb) (mb := mb) hwz hwy
    rw [EA.out, EB.out] at e
    rw [hx'.out, hy'.out]; exact e
  · obtain ⟨b1, l1⟩ := bnext hBelow.out (by omega) (Below.refl _ W).drew
    obtain ⟨b2, l2⟩ := bnext b1 l1 hw2
    obtain ⟨b3, l3⟩ := bnext b2 l2 hw3
    rw [HBe.out]
    exact b3.trans ((only_set2 _ _ _ _).below (by omega))
end Go.Proofs.YthicfkeiggcjjaaGreatDoor

namespace Go.Proofs.YthicfkeiggcjjaaGreatDoor
open Go.RowKit

theorem num_two (v : Int) : num [v % 4294967296, v / 4294967296] = v := by simp only [num]; omega

set_option maxRecDepth 100000 in
set_option maxHeartbeats 1000000 in
theorem fromWord_any (v : Int) (w : World) (h0 : 0 ≤ v) (h1 : v ≤ 18446744073709551615) :
    Calls Tryz.prog 66 #[.int .u64 v] w fun e w' => ∃ ro k cr, e = .returned (.slice ro k cr) ∧ Sl w' ro k cr (limbs v.toNat) ∧ Below w.heap.size w w' := by
  go_enter Tryz.func66, Tryz.ntmps66
  go_wp2_with fail
  have hb : Blk (w.alloc (.cells #[.int .u32 (v % 4294967296), .int .u32 (v / 4294967296)] 83)) w.heap.size [v % 4294967296, v / 4294967296] := heap_alloc_new w _
  refine (trim_sl _ _ _ _ _ (hb.sl (n := 2) (Wf.cons (by omega) (Wf.cons (by omega) Wf.nil)) rfl (by omega) (Nat.le_refl _))).mono ?_
  rintro e w4 ⟨k, rfl, hs, rfl⟩
  rw [num_two] at hs
  go_wp2
  go_ret
  exact ⟨_, k, _, rfl, hs, (Below.refl _ w).alloc (Nat.le_refl _) _⟩

set_option maxRecDepth 100000 in
set_option maxHeartbeats 1000000 in
theorem fromInt_any (x : Int) (w : World) (h0 : -9223372036854775808 ≤ x) (h1 : x ≤ 9223372036854775807) :
    Calls Tryz.prog 45 #[.int .i64 x] w fun e w' => ∃ nr ro k cr, e = .returned (.agg #[.bool nr, .slice ro k cr]) ∧ Bn w' nr ro k cr x ∧ Below w.heap.size w w' := by
  by_cases hx : x < 0
  · go_enter Tryz.func45, Tryz.ntmps45
    go_wp2_with fail
    rw [show IntKind.u64.wrap (-IntKind.u64.wrap x) = -x from by rw [IntKind.wrap_u64, IntKind.wrap_u64]; omega]
    have hrx := Box.new w false none 0 0
    have hB := (Below.refl w.heap.size w).alloc (Nat.le_refl _) (.cells #[.bool false, .slice none 0 0] 52)
    have hz : w.heap.size + 1 ≤ (w.alloc (.cells #[.bool false, .slice none 0 0] 52)).heap.size := by simp
    generalize w.alloc (.cells #[.bool false, .slice none 0 0] 52) = W at *
    refine (fromWord_any (-x) W (by omega) (by omega)).mono ?_
    rintro e w2 ⟨ro, k, cr, rfl, hs, hw2⟩
    have y2 := hrx.below hw2
    go_wp2_with fail
    refine (signed_any _ _ _ _ _ _ hs).mono ?_
    rintro e w3 ⟨ro', cr', rfl, hs3, hw3⟩
    have y3 := y2.below hw3
    obtain ⟨b2, l2⟩ := bnext hB (by omega) hw2
    obtain ⟨b3, l3⟩ := bnext b2 l2 hw3
    generalize hBe : w.heap.size = B at *
    have HBe := Lib.hid hBe; clear hBe
    have z2 := hw2.size
    have z3' := hw3.size
    clear hrx hB hw2 hw3 y2 hs b2 l2
    have q0 := y3.c0
    have q1 := y3.c1
    have q2 := y3.f 0
    have q3 := y3.f 1
    have z3 := y3.stored (true && decide (0 < k)) ro' k cr'
    have z0 := z3.c0
    have z1 := z3.c1
    simp only [Bool.true_and] at z0 z1
    go_wp2
    refine bodyPost_ret (v := .agg #[.bool (true && decide (0 < k)), .slice ro' k cr']) (by simp [results, Tryz.results45, go_sem, z0, z1]) rfl ⟨_, ro', k, cr', rfl, ?_, ?_⟩
    · refine bn_of (nb := true) (Sl.only_box hs3 y3 (only_set2 _ _ _ _)) rfl ?_
      simp; omega
    · rw [HBe.out]
      exact b3.trans ((only_set2 _ _ _ _).below (by omega))
  · go_enter Tryz.func45, Tryz.ntmps45
    go_wp2_with fail
    have hrx := Box.new w false none 0 0
    have hB := (Below.refl w.heap.size w).alloc (Nat.le_refl _) (.cells #[.bool false, .slice none 0 0] 52)
    have hz : w.heap.size + 1 ≤ (w.alloc (.cells #[.bool false, .slice none 0 0] 52)).heap.size := by simp
    generalize w.alloc (.cells #[.bool false, .slice none 0 0] 52) = W at *
    refine (fromWord_any x W (by omega) (by omega)).mono ?_
    rintro e w2 ⟨ro, k, cr, rfl, hs, hw2⟩
    have y2 := hrx.below hw2
    go_wp2_with fail
    refine (signed_any _ _ _ _ _ _ hs).mono ?_
    rintro e w3 ⟨ro', cr', rfl, hs3, hw3⟩
    have y3 := y2.below hw3
    obtain ⟨b2, l2⟩ := bnext hB (by omega) hw2
    obtain ⟨b3, l3⟩ := bnext b2 l2 hw3
    generalize hBe : w.heap.size = B at *
    have HBe := Lib.hid hBe; clear hBe
    have z2 := hw2.size
    have z3' := hw3.size
    clear hrx hB hw2 hw3 y2 hs b2 l2
    have q0 := y3.c0
    have q1 := y3.c1
    have q2 := y3.f 0
    have q3 := y3.f 1
    have z3 := y3.stored (false && decide (0 < k)) ro' k cr'
    have z0 := z3.c0
    have z1 := z3.c1
    simp only [Bool.false_and] at z0 z1
    go_wp2
    refine bodyPost_ret (v := .agg #[.bool (false && decide (0 < k)), .slice ro' k cr']) (by simp [results, Tryz.results45, go_sem, z0, z1]) rfl ⟨_, ro', k, cr', rfl, ?_, ?_⟩
    · refine bn_of (nb := false) (Sl.only_box hs3 y3 (only_set2 _ _ _ _)) rfl ?_
      simp; omega
    · rw [HBe.out]
      exact b3.trans ((only_set2 _ _ _ _).below (by omega))
end Go.Proofs.YthicfkeiggcjjaaGreatDoor

namespace Go.Proofs.YthicfkeiggcjjaaGreatDoor
open Go.RowKit

/-- later, with all that was there as it was -/
def Ext (w w' : World) : Prop := Below w.heap.size w w'
theorem Ext.refl (w : World) : Ext w w := Below.refl _ _
theorem Ext.trans {a b c : World} (h : Ext a b) (k : Ext b c) : Ext a c := Below.trans h (Below.mono k h.size)

/-- a value, the number that it stands for, how many limbs it has at most, is it normalized -/
structure Ent where
  v : Value
  x : Int
  N : Nat
  c : Bool

def Ent.Ok (w : World) (p : Ent) : Prop :=
  ∃ nb ao n ca, p.v = .agg #[.bool nb, .slice ao n ca] ∧ Bg w nb ao n ca p.x ∧ n ≤ p.N ∧ p.x.natAbs < 4294967296 ^ p.N ∧ (p.c = true → Bn w nb ao n ca p.x)

theorem Ent.Ok.ext {w w' : World} {p : Ent} (h : p.Ok w) (he : Ext w w') : p.Ok w' := by
  obtain ⟨nb, ao, n, ca, h1, h2, h3, h4, h5⟩ := h
  exact ⟨nb, ao, n, ca, h1, h2.below he, h3, h4, fun e => (h5 e).below he⟩

/-- what is at hand -/
structure St (W w : World) (L : List Ent) : Prop where
  ext : Ext W w
  bag : ∀ p ∈ L, p.Ok w

theorem St.step {W w w' : World} {L : List Ent} (h : St W w L) (he : Ext w w') : St W w' L := ⟨h.ext.trans he, fun p hp => (h.bag p hp).ext he⟩
theorem St.push {W w w' : World} {L : List Ent} (h : St W w L) (he : Ext w w') {p : Ent} (hp : p.Ok w') : St W w' (p :: L) :=
  ⟨h.ext.trans he, fun q hq => by
    rcases List.mem_cons.1 hq with rfl | hq
    · exact hp
    · exact (h.bag q hq).ext he⟩
theorem St.drew {W w : World} {L : List Ent} (h : St W w L) : St W w.drew L := h.step (Below.refl _ _).drew
theorem St.drewN {W w : World} {L : List Ent} (h : St W w L) (q : Nat) : St W (w.drewN q) L := h.step (below_drewN (Below.refl _ _) q)

theorem len_of_lt {x : Int} {N : Nat} (h : x.natAbs < 4294967296 ^ N) : (limbs x.natAbs).length ≤ N := (limbs_len_le _ _).2 h

/-- a normalized result -/
theorem ok_bn {w : World} {nb : Bool} {ao : Option Addr} {n ca : Nat} {x : Int} {N : Nat} (h : Bn w nb ao n ca x) (hx : x.natAbs < 4294967296 ^ N) (hN : N ≤ 1000000000) : Ent.Ok w ⟨.agg #[.bool nb, .slice ao n ca], x, N, true⟩ := by
  have hl := len_of_lt hx
  rw [h.sl.len] at hl
  exact ⟨nb, ao, n, ca, rfl, h.bg (by omega), hl, hx, fun _ => h⟩

theorem pow_le {a b : Nat} (h : a ≤ b) : 4294967296 ^ a ≤ 4294967296 ^ b := Nat.pow_le_pow_right (by omega) h

theorem abs_add {x y : Int} {N M : Nat} (hx : x.natAbs < 4294967296 ^ N) (hy : y.natAbs < 4294967296 ^ M) : (x + y).natAbs < 4294967296 ^ (max N M + 1) := by
  have h1 := Nat.lt_of_lt_of_le hx (pow_le (Nat.le_max_left N M))
  have h2 := Nat.lt_of_lt_of_le hy (pow_le (Nat.le_max_right N M))
  have h3 := Int.natAbs_add_le x y
  rw [Nat.pow_succ]
  omega
theorem abs_mul {x y : Int} {N M : Nat} (hx : x.natAbs < 4294967296 ^ N) (hy : y.natAbs < 4294967296 ^ M) : (x * y).natAbs < 4294967296 ^ (N + M) := by
  rw [Int.natAbs_mul, Nat.pow_add]
  by_cases h0 : y.natAbs = 0
  · rw [h0, Nat.mul_zero]; exact Nat.mul_pos (Nat.pos_of_ne_zero (by simp)) (Nat.pos_of_ne_zero (by simp))
  · exact Nat.mul_lt_mul_of_lt_of_le hx (Nat.le_of_lt hy) (Nat.pos_of_ne_zero (by simp))

section
variable {W w : World} {L : List Ent} {u v : Value} {x y : Int} {N M : Nat} {c d : Bool}

theorem add_bag (h : St W w L) (h1 : ⟨u, x, N, c⟩ ∈ L) (h2 : ⟨v, y, M, d⟩ ∈ L) (hN : N ≤ 100000) (hM : M ≤ 100000) :
    Calls Tryz.prog 49 #[u, v] w fun e w' => ∃ r, e = .returned r ∧ St W w' (⟨r, x + y, max N M + 1, true⟩ :: L) := by
  obtain ⟨nb, ao, n, ca, rfl, b1, n1, a1, _⟩ := h.bag _ h1
  obtain ⟨mb, bo, m, cb, rfl, b2, n2, a2, _⟩ := h.bag _ h2
  refine (add_any nb mb ao n ca bo m cb x y w b1 b2).mono fun e w' ⟨nr, ro, k, cr, he, hr, hw⟩ => ⟨_, he, h.push hw (ok_bn hr (abs_add a1 a2) (by omega))⟩

theorem mul_bag (h : St W w L) (h1 : ⟨u, x, N, c⟩ ∈ L) (h2 : ⟨v, y, M, d⟩ ∈ L) (hN : N ≤ 100000) (hM : M ≤ 100000) (hs : N < 100 ∨ M < 100) :
    Calls Tryz.prog 47 #[u, v] w fun e w' => ∃ r, e = .returned r ∧ St W w' (⟨r, x * y, N + M, true⟩ :: L) := by
  obtain ⟨nb, ao, n, ca, rfl, b1, n1, a1, _⟩ := h.bag _ h1
  obtain ⟨mb, bo, m, cb, rfl, b2, n2, a2, _⟩ := h.bag _ h2
  refine (mul_any nb mb ao n ca bo m cb x y w b1 b2 (by simp only at n1 n2; omega)).mono fun e w' ⟨nr, ro, k, cr, he, hr, hw⟩ => ⟨_, he, h.push hw (ok_bn hr (abs_mul a1 a2) (by omega))⟩

end

/-- a small raw argument -/
theorem ok_raw {w : World} {nb : Bool} {ao : Option Addr} {n ca : Nat} {zs : List Int} (h : Sl w ao n ca zs) (N : Nat) (hn : n ≤ N) (hN : N ≤ 100000) : Ent.Ok w ⟨.agg #[.bool nb, .slice ao n ca], sgd nb zs, N, false⟩ := by
  refine ⟨nb, ao, n, ca, rfl, ⟨⟨zs, h, rfl⟩, by omega⟩, hn, ?_, fun e => by cases e⟩
  simp only
  rw [sgd_natAbs h.wf]
  have h1 := num_lt h.wf
  have h2 := num_nonneg h.wf
  rw [h.len] at h1
  have h3 : ((num zs).toNat : Int) < ((4294967296 ^ n : Nat) : Int) := by rw [Int.toNat_of_nonneg h2, Int.natCast_pow]; exact h1
  exact Nat.lt_of_lt_of_le (Int.ofNat_lt.1 h3) (pow_le hn)

end Go.Proofs.YthicfkeiggcjjaaGreatDoor

namespace Go.Proofs.YthicfkeiggcjjaaGreatDoor
open Go.RowKit

theorem or_hl {h l : Int} (h0 : 0 ≤ h) (h1 : h < 4294967296) (l0 : 0 ≤ l) (l1 : l < 4294967296) : bits BinOp.or IntKind.u64 (h * 4294967296) l = h * 4294967296 + l := by
  obtain ⟨a, rfl⟩ := Int.eq_ofNat_of_zero_le h0
  obtain ⟨b, rfl⟩ := Int.eq_ofNat_of_zero_le l0
  have e := bits_or_u64_nat (a * 4294967296) b (by omega) (by omega)
  have e2 : a * 4294967296 ||| b = a * 4294967296 + b := by
    have := Nat.two_pow_add_eq_or_of_lt (i := 32) (b := b) (by omega) a
    rw [show (2 : Nat) ^ 32 = 4294967296 from rfl] at this
    rw [Nat.mul_comm a, ← this]
  rw [e2] at e
  simpa using e

set_option maxRecDepth 100000 in
set_option maxHeartbeats 1000000 in
theorem div32_any (h l y : Int) (w : World) (h0 : 0 ≤ h) (hy : h < y) (y1 : y < 4294967296) (l0 : 0 ≤ l) (l1 : l < 4294967296) :
    Calls Tryz.prog 119 #[.int .u32 h, .int .u32 l, .int .u32 y] w fun e w' => e = .returned (.tuple #[.int .u32 ((h * 4294967296 + l) / y), .int .u32 ((h * 4294967296 + l) % y)]) ∧ ∃ q, w' = w.drewN q := by
  have hyb : (y != 0) = true := by simp; omega
  have hq0 : 0 ≤ (h * 4294967296 + l) / y := Int.ediv_nonneg (by omega) (by omega)
  have hq1 : (h * 4294967296 + l) / y < 4294967296 := by
    apply Int.ediv_lt_of_lt_mul (by omega)
    have : (h + 1) * 4294967296 ≤ y * 4294967296 := Int.mul_le_mul_of_nonneg_right (by omega) (by omega)
    rw [Int.mul_comm 4294967296 y]
    omega
  have hr0 : 0 ≤ (h * 4294967296 + l) % y := Int.emod_nonneg _ (by omega)
  have hr1 : (h * 4294967296 + l) % y < y := Int.emod_lt_of_pos _ (by omega)
  have hor := or_hl h0 (by omega) l0 l1
  have hge : decide (y ≤ h) = false := by simp; omega
  go_enter Tryz.func119, Tryz.ntmps119
  go_wp2
  go_quiet (fail)
  go_wp2
  go_ret2
  exact ⟨rfl, nq, rfl⟩
end Go.Proofs.YthicfkeiggcjjaaGreatDoor
