import Derived.Test.YtlpclahlolhjfaaDoorMoPlU10
import Derived.Laws.Bits64
import Derived.Test.YtlpclahlolhjfaaDoorMoPlU14
import Derived.Deep.RegionHeld3
import Derived.Test.YtlpclahlolhjfaaDoorMoPlU3
import Derived.Deep.QuietTactic
import Derived.BigQuiet
import Derived.Laws.Bits64b
namespace Go.Proofs.YtlpclahlolhjfaaDoor
open Go.RowKit

theorem num_two (v : Int) : num [v % 4294967296, v / 4294967296] = v := by simp only [num]; omega

set_option maxRecDepth 100000 in
set_option maxHeartbeats 1000000 in
theorem fromWord_any (v : Int) (w : World) (h0 : 0 ≤ v) (h1 : v ≤ 18446744073709551615) :
    Calls Tryd.prog 43 #[.int .u64 v] w fun e w' => ∃ ro k cr, e = .returned (.slice ro k cr) ∧ Sl w' ro k cr (limbs v.toNat) ∧ Below w.heap.size w w' := by
  go_enter Tryd.func43, Tryd.ntmps43
  go_wp2_with fail
  have hb : Blk (w.alloc (.cells #[.int .u32 (v % 4294967296), .int .u32 (v / 4294967296)] 67)) w.heap.size [v % 4294967296, v / 4294967296] := heap_alloc_new w _
  refine (trim_sl _ _ _ _ _ (hb.sl (n := 2) (Wf.cons (by omega) (Wf.cons (by omega) Wf.nil)) rfl (by omega) (Nat.le_refl _))).mono ?_
  rintro e w4 ⟨k, rfl, hs, rfl⟩
  rw [num_two] at hs
  go_wp2
  go_ret
  exact ⟨_, k, _, rfl, hs, (Below.refl _ w).alloc (Nat.le_refl _) _⟩

set_option maxRecDepth 100000 in
set_option maxHeartbeats 1000000 in
theorem fromInt_any (x : Int) (w : World) (h0 : -9223372036854775808 ≤ x) (h1 : x ≤ 9223372036854775807) :
    Calls Tryd.prog 23 #[.int .i64 x] w fun e w' => ∃ nr ro k cr, e = .returned (.agg #[.bool nr, .slice ro k cr]) ∧ Bn w' nr ro k cr x ∧ Below w.heap.size w w' := by
  by_cases hx : x < 0
  · go_enter Tryd.func23, Tryd.ntmps23
    go_wp2_with fail
    rw [show IntKind.u64.wrap (-IntKind.u64.wrap x) = -x from by rw [IntKind.wrap_u64, IntKind.wrap_u64]; omega]
    have hrx := Box.new w false none 0 0
    have hB := (Below.refl w.heap.size w).alloc (Nat.le_refl _) (.cells #[.bool false, .slice none 0 0] 36)
    have hz : w.heap.size + 1 ≤ (w.alloc (.cells #[.bool false, .slice none 0 0] 36)).heap.size := by simp
    generalize w.alloc (.cells #[.bool false, .slice none 0 0] 36) = W at *
    refine (fromWord_any (-x) W (by omega) (by omega)).mono ?_
    rintro e w2 ⟨ro, k, cr, rfl, hs, hw2⟩
    have y2 := hrx.below hw2
    go_wp2_with fail
    refine (signed_any _ _ _ _ _ _ hs).mono ?_
    rintro e w3 ⟨ro', cr', rfl, hs3, hw3⟩
    have y3 := y2.below hw3
    obtain ⟨b2, l2⟩ := bnext hB (by omega) hw2
    obtain ⟨b3, l3⟩ := bnext b2 l2 hw3
    generalize hBe : w.heap.size = B at *
    have HBe := Lib.hid hBe; clear hBe
    have z2 := hw2.size
    have z3' := hw3.size
    clear hrx hB hw2 hw3 y2 hs b2 l2
    have q0 := y3.c0
    have q1 := y3.c1
    have q2 := y3.f 0
    have q3 := y3.f 1
    have z3 := y3.stored (true && decide (0 < k)) ro' k cr'
    have z0 := z3.c0
    have z1 := z3.c1
    simp only [Bool.true_and] at z0 z1
    go_wp2
    refine bodyPost_ret (v := .agg #[.bool (true && decide (0 < k)), .slice ro' k cr']) (by simp [results, Tryd.results23, go_sem, z0, z1]) rfl ⟨_, ro', k, cr', rfl, ?_, ?_⟩
    · refine bn_of (nb := true) (Sl.only_box hs3 y3 (only_set2 _ _ _ _)) rfl ?_
      simp; omega
    · rw [HBe.out]
      exact b3.trans ((only_set2 _ _ _ _).below (by omega))
  · go_enter Tryd.func23, Tryd.ntmps23
    go_wp2_with fail
    have hrx := Box.new w false none 0 0
    have hB := (Below.refl w.heap.size w).alloc (Nat.le_refl _) (.cells #[.bool false, .slice none 0 0] 36)
    have hz : w.heap.size + 1 ≤ (w.alloc (.cells #[.bool false, .slice none 0 0] 36)).heap.size := by simp
    generalize w.alloc (.cells #[.bool false, .slice none 0 0] 36) = W at *
    refine (fromWord_any x W (by omega) (by omega)).mono ?_
    rintro e w2 ⟨ro, k, cr, rfl, hs, hw2⟩
    have y2 := hrx.below hw2
    go_wp2_with fail
    refine (signed_any _ _ _ _ _ _ hs).mono ?_
    rintro e w3 ⟨ro', cr', rfl, hs3, hw3⟩
    have y3 := y2.below hw3
    obtain ⟨b2, l2⟩ := bnext hB (by omega) hw2
    obtain ⟨b3, l3⟩ := bnext b2 l2 hw3
    generalize hBe : w.heap.size = B at *
    have HBe := Lib.hid hBe; clear hBe
    have z2 := hw2.size
    have z3' := hw3.size
    clear hrx hB hw2 hw3 y2 hs b2 l2
    have q0 := y3.c0
    have q1 := y3.c1
    have q2 := y3.f 0
    have q3 := y3.f 1
    have z3 := y3.stored (false && decide (0 < k)) ro' k cr'
    have z0 := z3.c0
    have z1 := z3.c1
    simp only [Bool.false_and] at z0 z1
    go_wp2
    refine bodyPost_ret (v := .agg #[.bool (false && decide (0 < k)), .slice ro' k cr']) (by simp [results, Tryd.results23, go_sem, z0, z1]) rfl ⟨_, ro', k, cr', rfl, ?_, ?_⟩
    · refine bn_of (nb := false) (Sl.only_box hs3 y3 (only_set2 _ _ _ _)) rfl ?_
      simp; omega
    · rw [HBe.out]
      exact b3.trans ((only_set2 _ _ _ _).below (by omega))
end Go.Proofs.YtlpclahlolhjfaaDoor

namespace Go.Proofs.YtlpclahlolhjfaaDoor
open Go.RowKit

/-- later, with all that was there as it was -/
def Ext (w w' : World) : Prop := Below w.heap.size w w'
theorem Ext.refl (w : World) : Ext w w := Below.refl _ _
theorem Ext.trans {a b c : World} (h : Ext a b) (k : Ext b c) : Ext a c := Below.trans h (Below.mono k h.size)

/-- a value, the number that it stands for, how many limbs it has at most, is it normalized -/
structure Ent where
  v : Value
  x : Int
  N : Nat
  c : Bool

def Ent.Ok (w : World) (p : Ent) : Prop :=
  ∃ nb ao n ca, p.v = .agg #[.bool nb, .slice ao n ca] ∧ Bg w nb ao n ca p.x ∧ n ≤ p.N ∧ p.x.natAbs < 4294967296 ^ p.N ∧ (p.c = true → Bn w nb ao n ca p.x)

theorem Ent.Ok.ext {w w' : World} {p : Ent} (h : p.Ok w) (he : Ext w w') : p.Ok w' := by
  obtain ⟨nb, ao, n, ca, h1, h2, h3, h4, h5⟩ := h
  exact ⟨nb, ao, n, ca, h1, h2.below he, h3, h4, fun e => (h5 e).below he⟩

/-- what is at hand -/
structure St (W w : World) (L : List Ent) : Prop where
  ext : Ext W w
  bag : ∀ p ∈ L, p.Ok w

theorem St.step {W w w' : World} {L : List Ent} (h : St W w L) (he : Ext w w') : St W w' L := ⟨h.ext.trans he, fun p hp => (h.bag p hp).ext he⟩
theorem St.push {W w w' : World} {L : List Ent} (h : St W w L) (he : Ext w w') {p : Ent} (hp : p.Ok w') : St W w' (p :: L) :=
  ⟨h.ext.trans he, fun q hq => by
    rcases List.mem_cons.1 hq with rfl | hq
    · exact hp
    · exact (h.bag q hq).ext he⟩
theorem St.drew {W w : World} {L : List Ent} (h : St W w L) : St W w.drew L := h.step (Below.refl _ _).drew
theorem St.drewN {W w : World} {L : List Ent} (h : St W w L) (q : Nat) : St W (w.drewN q) L := h.step (below_drewN (Below.refl _ _) q)

theorem len_of_lt {x : Int} {N : Nat} (h : x.natAbs < 4294967296 ^ N) : (limbs x.natAbs).length ≤ N := (limbs_len_le _ _).2 h

/-- a normalized result -/
theorem ok_bn {w : World} {nb : Bool} {ao : Option Addr} {n ca : Nat} {x : Int} {N : Nat} (h : Bn w nb ao n ca x) (hx : x.natAbs < 4294967296 ^ N) (hN : N ≤ 1000000000) : Ent.Ok w ⟨.agg #[.bool nb, .slice ao n ca], x, N, true⟩ := by
  have hl := len_of_lt hx
  rw [h.sl.len] at hl
  exact ⟨nb, ao, n, ca, rfl, h.bg (by omega), hl, hx, fun _ => h⟩

theorem pow_le {a b : Nat} (h : a ≤ b) : 4294967296 ^ a ≤ 4294967296 ^ b := Nat.pow_le_pow_right (by omega) h

theorem abs_add {x y : Int} {N M : Nat} (hx : x.natAbs < 4294967296 ^ N) (hy : y.natAbs < 4294967296 ^ M) : (x + y).natAbs < 4294967296 ^ (max N M + 1) := by
  have h1 := Nat.lt_of_lt_of_le hx (pow_le (Nat.le_max_left N M))
  have h2 := Nat.lt_of_lt_of_le hy (pow_le (Nat.le_max_right N M))
  have h3 := Int.natAbs_add_le x y
  rw [Nat.pow_succ]
  omega
theorem abs_mul {x y : Int} {N M : Nat} (hx : x.natAbs < 4294967296 ^ N) (hy : y.natAbs < 4294967296 ^ M) : (x * y).natAbs < 4294967296 ^ (N + M) := by
  rw [Int.natAbs_mul, Nat.pow_add]
  by_cases h0 : y.natAbs = 0
  · rw [h0, Nat.mul_zero]; exact Nat.mul_pos (Nat.pos_of_ne_zero (by simp)) (Nat.pos_of_ne_zero (by simp))
  · exact Nat.mul_lt_mul_of_lt_of_le hx (Nat.le_of_lt hy) (Nat.pos_of_ne_zero (by simp))

section
variable {W w : World} {L : List Ent} {u v : Value} {x y : Int} {N M : Nat} {c d : Bool}

theorem add_bag (h : St W w L) (h1 : ⟨u, x, N, c⟩ ∈ L) (h2 : ⟨v, y, M, d⟩ ∈ L) (hN : N ≤ 100000) (hM : M ≤ 100000) :
    Calls Tryd.prog 27 #[u, v] w fun e w' => ∃ r, e = .returned r ∧ St W w' (⟨r, x + y, max N M + 1, true⟩ :: L) := by
  obtain ⟨nb, ao, n, ca, rfl, b1, n1, a1, _⟩ := h.bag _ h1
  obtain ⟨mb, bo, m, cb, rfl, b2, n2, a2, _⟩ := h.bag _ h2
  refine (add_any nb mb ao n ca bo m cb x y w b1 b2).mono fun e w' ⟨nr, ro, k, cr, he, hr, hw⟩ => ⟨_, he, h.push hw (ok_bn hr (abs_add a1 a2) (by omega))⟩

theorem mul_bag (h : St W w L) (h1 : ⟨u, x, N, c⟩ ∈ L) (h2 : ⟨v, y, M, d⟩ ∈ L) (hN : N ≤ 100000) (hM : M ≤ 100000) (hs : N < 100 ∨ M < 100) :
    Calls Tryd.prog 25 #[u, v] w fun e w' => ∃ r, e = .returned r ∧ St W w' (⟨r, x * y, N + M, true⟩ :: L) := by
  obtain ⟨nb, ao, n, ca, rfl, b1, n1, a1, _⟩ := h.bag _ h1
  obtain ⟨mb, bo, m, cb, rfl, b2, n2, a2, _⟩ := h.bag _ h2
  refine (mul_any nb mb ao n ca bo m cb x y w b1 b2 (by simp only at n1 n2; omega)).mono fun e w' ⟨nr, ro, k, cr, he, hr, hw⟩ => ⟨_, he, h.push hw (ok_bn hr (abs_mul a1 a2) (by omega))⟩

end

/-- a small raw argument -/
theorem ok_raw {w : World} {nb : Bool} {ao : Option Addr} {n ca : Nat} {zs : List Int} (h : Sl w ao n ca zs) (N : Nat) (hn : n ≤ N) (hN : N ≤ 100000) : Ent.Ok w ⟨.agg #[.bool nb, .slice ao n ca], sgd nb zs, N, false⟩ := by
  refine ⟨nb, ao, n, ca, rfl, ⟨⟨zs, h, rfl⟩, by omega⟩, hn, ?_, fun e => by cases e⟩
  simp only
  rw [sgd_natAbs h.wf]
  have h1 := num_lt h.wf
  have h2 := num_nonneg h.wf
  rw [h.len] at h1
  have h3 : ((num zs).toNat : Int) < ((4294967296 ^ n : Nat) : Int) := by rw [Int.toNat_of_nonneg h2, Int.natCast_pow]; exact h1
  exact Nat.lt_of_lt_of_le (Int.ofNat_lt.1 h3) (pow_le hn)

end Go.Proofs.YtlpclahlolhjfaaDoor

namespace Go.Proofs.YtlpclahlolhjfaaDoor
open Go.RowKit

theorem or_hl {h l : Int} (h0 : 0 ≤ h) (h1 : h < 4294967296) (l0 : 0 ≤ l) (l1 : l < 4294967296) : bits BinOp.or IntKind.u64 (h * 4294967296) l = h * 4294967296 + l := by
  obtain ⟨a, rfl⟩ := Int.eq_ofNat_of_zero_le h0
  obtain ⟨b, rfl⟩ := Int.eq_ofNat_of_zero_le l0
  have e := bits_or_u64_nat (a * 4294967296) b (by omega) (by omega)
  have e2 : a * 4294967296 ||| b = a * 4294967296 + b := by
    have := Nat.two_pow_add_eq_or_of_lt (i := 32) (b := b) (by omega) a
    rw [show (2 : Nat) ^ 32 = 4294967296 from rfl] at this
    rw [Nat.mul_comm a, ← this]
  rw [e2] at e
  simpa using e

set_option maxRecDepth 100000 in
set_option maxHeartbeats 1000000 in
theorem div32_any (h l y : Int) (w : World) (h0 : 0 ≤ h) (hy : h < y) (y1 : y < 4294967296) (l0 : 0 ≤ l) (l1 : l < 4294967296) :
    Calls Tryd.prog 94 #[.int .u32 h, .int .u32 l, .int .u32 y] w fun e w' => e = .returned (.tuple #[.int .u32 ((h * 4294967296 + l) / y), .int .u32 ((h * 4294967296 + l) % y)]) ∧ ∃ q, w' = w.drewN q := by
  have hyb : (y != 0) = true := by simp; omega
  have hq0 : 0 ≤ (h * 4294967296 + l) / y := Int.ediv_nonneg (by omega) (by omega)
  have hq1 : (h * 4294967296 + l) / y < 4294967296 := by
    apply Int.ediv_lt_of_lt_mul (by omega)
    have : (h + 1) * 4294967296 ≤ y * 4294967296 := Int.mul_le_mul_of_nonneg_right (by omega) (by omega)
    rw [Int.mul_comm 4294967296 y]
    omega
  have hr0 : 0 ≤ (h * 4294967296 + l) % y := Int.emod_nonneg _ (by omega)
  have hr1 : (h * 4294967296 + l) % y < y := Int.emod_lt_of_pos _ (by omega)
  have hor := or_hl h0 (by omega) l0 l1
  have hge : decide (y ≤ h) = false := by simp; omega
  go_enter Tryd.func94, Tryd.ntmps94
  go_wp2
  go_quiet (fail)
  go_wp2
  go_ret2
  exact ⟨rfl, nq, rfl⟩
end Go.Proofs.YtlpclahlolhjfaaDoor
