import Derived.Test.YtlpclahlolhjfaaGreatDoorMoRlU6
import Derived.Laws.Bits64
import Derived.Test.YtlpclahlolhjfaaGreatDoorMoRlU2
import Derived.Deep.QuietTactic
import Derived.BigQuiet
import Derived.Test.YtlpclahlolhjfaaGreatDoorMoRlU7
import Derived.Laws.Bits64b
namespace Go.Proofs.YtlpclahlolhjfaaGreatDoor
open Go.RowKit

theorem num_two (v : Int) : num [v % 4294967296, v / 4294967296] = v := by simp only [num]; omega

set_option maxRecDepth 100000 in
set_option maxHeartbeats 1000000 in
theorem fromWord_any (v : Int) (w : World) (h0 : 0 ≤ v) (h1 : v ≤ 18446744073709551615) :
    Calls Tryz.prog 58 #[.int .u64 v] w fun e w' => ∃ ro k cr, e = .returned (.slice ro k cr) ∧ Sl w' ro k cr (limbs v.toNat) ∧ Below w.heap.size w w' := by
  go_enter Tryz.func58, Tryz.ntmps58
  go_wp2_with fail
  have hb : Blk (w.alloc (.cells #[.int .u32 (v % 4294967296), .int .u32 (v / 4294967296)] 66)) w.heap.size [v % 4294967296, v / 4294967296] := heap_alloc_new w _
  refine (trim_sl _ _ _ _ _ (hb.sl (n := 2) (Wf.cons (by omega) (Wf.cons (by omega) Wf.nil)) rfl (by omega) (Nat.le_refl _))).mono ?_
  rintro e w4 ⟨k, rfl, hs, rfl⟩
  rw [num_two] at hs
  go_wp2
  go_ret
  exact ⟨_, k, _, rfl, hs, (Below.refl _ w).alloc (Nat.le_refl _) _⟩

set_option maxRecDepth 100000 in
set_option maxHeartbeats 1000000 in
theorem fromInt_any (x : Int) (w : World) (h0 : -9223372036854775808 ≤ x) (h1 : x ≤ 9223372036854775807) :
    Calls Tryz.prog 21 #[.int .i64 x] w fun e w' => ∃ nr ro k cr, e = .returned (.agg #[.bool nr, .slice ro k cr]) ∧ Bn w' nr ro k cr x ∧ Below w.heap.size w w' := by
  by_cases hx : x < 0
  · go_enter Tryz.func21, Tryz.ntmps21
    go_wp2_with fail
    rw [show IntKind.u64.wrap (-IntKind.u64.wrap x) = -x from by rw [IntKind.wrap_u64, IntKind.wrap_u64]; omega]
    have hrx := Box.new w false none 0 0
    have hB := (Below.refl w.heap.size w).alloc (Nat.le_refl _) (.cells #[.bool false, .slice none 0 0] 27)
    have hz : w.heap.size + 1 ≤ (w.alloc (.cells #[.bool false, .slice none 0 0] 27)).heap.size := by simp
    generalize w.alloc (.cells #[.bool false, .slice none 0 0] 27) = W at *
    refine (fromWord_any (-x) W (by omega) (by omega)).mono ?_
    rintro e w2 ⟨ro, k, cr, rfl, hs, hw2⟩
    have y2 := hrx.below hw2
    go_wp2_with fail
    refine (signed_any _ _ _ _ _ _ hs).mono ?_
    rintro e w3 ⟨ro', cr', rfl, hs3, hw3⟩
    have y3 := y2.below hw3
    obtain ⟨b2, l2⟩ := bnext hB (by omega) hw2
    obtain ⟨b3, l3⟩ := bnext b2 l2 hw3
    generalize hBe : w.heap.size = B at *
    have HBe := Lib.hid hBe; clear hBe
    have z2 := hw2.size
    have z3' := hw3.size
    clear hrx hB hw2 hw3 y2 hs b2 l2
    have q0 := y3.c0
    have q1 := y3.c1
    have q2 := y3.f 0
    have q3 := y3.f 1
    have z3 := y3.stored (true && decide (0 < k)) ro' k cr'
    have z0 := z3.c0
    have z1 := z3.c1
    simp only [Bool.true_and] at z0 z1
    go_wp2
    refine bodyPost_ret (v := .agg #[.bool (true && decide (0 < k)), .slice ro' k cr']) (by simp [results, Tryz.results21, go_sem, z0, z1]) rfl ⟨_, ro', k, cr', rfl, ?_, ?_⟩
    · refine bn_of (nb := true) (Sl.only_box hs3 y3 (only_set2 _ _ _ _)) rfl ?_
      simp; omega
    · rw [HBe.out]
      exact b3.trans ((only_set2 _ _ _ _).below (by omega))
  · go_enter Tryz.func21, Tryz.ntmps21
    go_wp2_with fail
    have hrx := Box.new w false none 0 0
    have hB := (Below.refl w.heap.size w).alloc (Nat.le_refl _) (.cells #[.bool false, .slice none 0 0] 27)
    have hz : w.heap.size + 1 ≤ (w.alloc (.cells #[.bool false, .slice none 0 0] 27)).heap.size := by simp
    generalize w.alloc (.cells #[.bool false, .slice none 0 0] 27) = W at *
    refine (fromWord_any x W (by omega) (by omega)).mono ?_
    rintro e w2 ⟨ro, k, cr, rfl, hs, hw2⟩
    have y2 := hrx.below hw2
    go_wp2_with fail
    refine (signed_any _ _ _ _ _ _ hs).mono ?_
    rintro e w3 ⟨ro', cr', rfl, hs3, hw3⟩
    have y3 := y2.below hw3
    obtain ⟨b2, l2⟩ := bnext hB (by omega) hw2
    obtain ⟨b3, l3⟩ := bnext b2 l2 hw3
    generalize hBe : w.heap.size = B at *
    have HBe := Lib.hid hBe; clear hBe
    have z2 := hw2.size
    have z3' := hw3.size
    clear hrx hB hw2 hw3 y2 hs b2 l2
    have q0 := y3.c0
    have q1 := y3.c1
    have q2 := y3.f 0
    have q3 := y3.f 1
    have z3 := y3.stored (false && decide (0 < k)) ro' k cr'
    have z0 := z3.c0
    have z1 := z3.c1
    simp only [Bool.false_and] at z0 z1
    go_wp2
    refine bodyPost_ret (v := .agg #[.bool (false && decide (0 < k)), .slice ro' k cr']) (by simp [results, Tryz.results21, go_sem, z0, z1]) rfl ⟨_, ro', k, cr', rfl, ?_, ?_⟩
    · refine bn_of (nb := false) (Sl.only_box hs3 y3 (only_set2 _ _ _ _)) rfl ?_
      simp; omega
    · rw [HBe.out]
      exact b3.trans ((only_set2 _ _ _ _).below (by omega))
end Go.Proofs.YtlpclahlolhjfaaGreatDoor

namespace Go.Proofs.YtlpclahlolhjfaaGreatDoor
open Go.RowKit

set_option maxRecDepth 100000 in
set_option maxHeartbeats 400000 in
theorem limbs_same (ao bo : Option Addr) (n cap cbp : Nat) (zs : List Int) (w : World) (ha : Sl w ao n cap zs) (hb : Sl w bo n cbp zs) :
    Calls Tryz.prog 31 #[.slice ao n cap, .slice bo n cbp] w fun e w' => e = .returned (.bool true) ∧ ∃ q, w' = w.drewN q := by
  have hn := ha.big
  have h0 : ((n : Int) != n) = false := by simp
  go_enter Tryz.func31, Tryz.ntmps31
  go_wp2
  go_loopw [5] (fun i wr => ∃ k q : Nat, k ≤ n ∧ i = .int .i64 k ∧ wr = w.drewN q) (fun i _ => n - (intOf i).toNat)
  case atStart => exact ⟨0, 0, Nat.zero_le _, rfl, rfl⟩
  case round =>
    obtain ⟨k, q, hk, rfl, hw⟩ := hrel
    by_cases hlt : k < n
    · obtain ⟨b, off, rfl, hc⟩ := ha.cells (by rw [ha.len]; omega)
      obtain ⟨b', off', rfl, hc'⟩ := hb.cells (by rw [hb.len]; omega)
      subst hw
      have c1 := hc k (by rw [ha.len]; omega)
      have c2 := hc' k (by rw [hb.len]; omega)
      clear hc hc'
      obtain ⟨x, hx⟩ : ∃ x, zs.getD k 0 = x := ⟨_, rfl⟩
      rw [hx] at c1 c2
      clear hx
      have hxx : (x != x) = false := by simp
      go_wp2
      go_quiet (fail)
      go_wp2
      go_roundw
      case rel => exact ⟨k + 1, q + nq, by omega, by go_num, by simp [World.drewN]⟩
      case measure => simp [intOf]; omega
    · clear ha hb
      go_wp2
      go_ret
      exact ⟨rfl, q, rfl⟩
end Go.Proofs.YtlpclahlolhjfaaGreatDoor

namespace Go.Proofs.YtlpclahlolhjfaaGreatDoor
open Go.RowKit

set_option maxRecDepth 100000 in
set_option maxHeartbeats 1000000 in
theorem big_same (nb mb : Bool) (ao : Option Addr) (n ca : Nat) (bo : Option Addr) (m cb : Nat) (zs : List Int) (w : World) (hm : nb = mb) (ha : Sl w ao n ca zs) (hb : Sl w bo m cb zs) :
    Calls Tryz.prog 10 #[.agg #[.bool nb, .slice ao n ca], .agg #[.bool mb, .slice bo m cb]] w fun e w' => e = .returned (.bool true) ∧ Below w.heap.size w w' := by
  subst hm
  obtain rfl : n = m := by rw [← ha.len, hb.len]
  go_enter Tryz.func10, Tryz.ntmps10
  go_wp2_with fail
  obtain ⟨W, hW, hB⟩ : ∃ W, W = (w.alloc (.cells #[.bool nb, .slice ao n ca] 27)).alloc (.cells #[.bool nb, .slice bo n cb] 27) ∧ Below w.heap.size w W :=
    ⟨_, rfl, ((Below.refl _ w).alloc (Nat.le_refl _) _).alloc (by simp) _⟩
  rw [← hW]
  clear hW
  refine (limbs_same _ _ _ _ _ zs W (ha.below hB) (hb.below hB)).mono ?_
  rintro e w1 ⟨rfl, q, rfl⟩
  have hB' := Lib.hid hB; clear hB
  go_wp2
  go_ret
  exact ⟨rfl, below_drewN hB'.out q⟩

theorem big_eq (nb mb : Bool) (ao : Option Addr) (n ca : Nat) (bo : Option Addr) (m cb : Nat) (x y : Int) (w : World) (ha : Bn w nb ao n ca x) (hb : Bn w mb bo m cb y) (hxy : x = y) :
    Calls Tryz.prog 10 #[.agg #[.bool nb, .slice ao n ca], .agg #[.bool mb, .slice bo m cb]] w fun e w' => e = .returned (.bool true) ∧ Below w.heap.size w w' := by
  subst hxy
  exact big_same nb mb ao n ca bo m cb _ w (by rw [ha.neg, hb.neg]) ha.sl hb.sl

set_option maxRecDepth 100000 in
set_option maxHeartbeats 1000000 in
theorem slim_any (nb : Bool) (ao : Option Addr) (n ca k : Nat) (w : World) :
    Calls Tryz.prog 12 #[.agg #[.bool nb, .slice ao n ca], .int .i64 k] w fun e w' => e = .returned (.bool (decide (n ≤ k))) ∧ Below w.heap.size w w' := by
  go_enter Tryz.func12, Tryz.ntmps12
  go_wp2
  go_ret
  exact ⟨by first | rfl | simp, (Below.refl _ w).alloc (Nat.le_refl _) _⟩
end Go.Proofs.YtlpclahlolhjfaaGreatDoor

namespace Go.Proofs.YtlpclahlolhjfaaGreatDoor
open Go.RowKit

/-- later, with all that was there as it was -/
def Ext (w w' : World) : Prop := Below w.heap.size w w'
theorem Ext.refl (w : World) : Ext w w := Below.refl _ _
theorem Ext.trans {a b c : World} (h : Ext a b) (k : Ext b c) : Ext a c := Below.trans h (Below.mono k h.size)

/-- a value, the number that it stands for, how many limbs it has at most, is it normalized -/
structure Ent where
  v : Value
  x : Int
  N : Nat
  c : Bool

def Ent.Ok (w : World) (p : Ent) : Prop :=
  ∃ nb ao n ca, p.v = .agg #[.bool nb, .slice ao n ca] ∧ Bg w nb ao n ca p.x ∧ n ≤ p.N ∧ p.x.natAbs < 4294967296 ^ p.N ∧ (p.c = true → Bn w nb ao n ca p.x)

theorem Ent.Ok.ext {w w' : World} {p : Ent} (h : p.Ok w) (he : Ext w w') : p.Ok w' := by
  obtain ⟨nb, ao, n, ca, h1, h2, h3, h4, h5⟩ := h
  exact ⟨nb, ao, n, ca, h1, h2.below he, h3, h4, fun e => (h5 e).below he⟩

/-- what is at hand -/
structure St (W w : World) (L : List Ent) : Prop where
  ext : Ext W w
  bag : ∀ p ∈ L, p.Ok w

theorem St.step {W w w' : World} {L : List Ent} (h : St W w L) (he : Ext w w') : St W w' L := ⟨h.ext.trans he, fun p hp => (h.bag p hp).ext he⟩
theorem St.push {W w w' : World} {L : List Ent} (h : St W w L) (he : Ext w w') {p : Ent} (hp : p.Ok w') : St W w' (p :: L) :=
  ⟨h.ext.trans he, fun q hq => by
    rcases List.mem_cons.1 hq with rfl | hq
    · exact hp
    · exact (h.bag q hq).ext he⟩
theorem St.drew {W w : World} {L : List Ent} (h : St W w L) : St W w.drew L := h.step (Below.refl _ _).drew
theorem St.drewN {W w : World} {L : List Ent} (h : St W w L) (q : Nat) : St W (w.drewN q) L := h.step (below_drewN (Below.refl _ _) q)

theorem len_of_lt {x : Int} {N : Nat} (h : x.natAbs < 4294967296 ^ N) : (limbs x.natAbs).length ≤ N := (limbs_len_le _ _).2 h

/-- a normalized result -/
theorem ok_bn {w : World} {nb : Bool} {ao : Option Addr} {n ca : Nat} {x : Int} {N : Nat} (h : Bn w nb ao n ca x) (hx : x.natAbs < 4294967296 ^ N) (hN : N ≤ 1000000000) : Ent.Ok w ⟨.agg #[.bool nb, .slice ao n ca], x, N, true⟩ := by
  have hl := len_of_lt hx
  rw [h.sl.len] at hl
  exact ⟨nb, ao, n, ca, rfl, h.bg (by omega), hl, hx, fun _ => h⟩

theorem pow_le {a b : Nat} (h : a ≤ b) : 4294967296 ^ a ≤ 4294967296 ^ b := Nat.pow_le_pow_right (by omega) h

theorem abs_add {x y : Int} {N M : Nat} (hx : x.natAbs < 4294967296 ^ N) (hy : y.natAbs < 4294967296 ^ M) : (x + y).natAbs < 4294967296 ^ (max N M + 1) := by
  have h1 := Nat.lt_of_lt_of_le hx (pow_le (Nat.le_max_left N M))
  have h2 := Nat.lt_of_lt_of_le hy (pow_le (Nat.le_max_right N M))
  have h3 := Int.natAbs_add_le x y
  rw [Nat.pow_succ]
  omega
theorem abs_sub {x y : Int} {N M : Nat} (hx : x.natAbs < 4294967296 ^ N) (hy : y.natAbs < 4294967296 ^ M) : (x - y).natAbs < 4294967296 ^ (max N M + 1) := by
  have := abs_add hx (y := -y) (M := M) (by rw [Int.natAbs_neg]; exact hy)
  rwa [← Int.sub_eq_add_neg] at this
theorem abs_mul {x y : Int} {N M : Nat} (hx : x.natAbs < 4294967296 ^ N) (hy : y.natAbs < 4294967296 ^ M) : (x * y).natAbs < 4294967296 ^ (N + M) := by
  rw [Int.natAbs_mul, Nat.pow_add]
  by_cases h0 : y.natAbs = 0
  · rw [h0, Nat.mul_zero]; exact Nat.mul_pos (Nat.pos_of_ne_zero (by simp)) (Nat.pos_of_ne_zero (by simp))
  · exact Nat.mul_lt_mul_of_lt_of_le hx (Nat.le_of_lt hy) (Nat.pos_of_ne_zero (by simp))

section
variable {W w : World} {L : List Ent} {u v : Value} {x y : Int} {N M : Nat} {c d : Bool}

theorem add_bag (h : St W w L) (h1 : ⟨u, x, N, c⟩ ∈ L) (h2 : ⟨v, y, M, d⟩ ∈ L) (hN : N ≤ 100000) (hM : M ≤ 100000) :
    Calls Tryz.prog 29 #[u, v] w fun e w' => ∃ r, e = .returned r ∧ St W w' (⟨r, x + y, max N M + 1, true⟩ :: L) := by
  obtain ⟨nb, ao, n, ca, rfl, b1, n1, a1, _⟩ := h.bag _ h1
  obtain ⟨mb, bo, m, cb, rfl, b2, n2, a2, _⟩ := h.bag _ h2
  refine (add_any nb mb ao n ca bo m cb x y w b1 b2).mono fun e w' ⟨nr, ro, k, cr, he, hr, hw⟩ => ⟨_, he, h.push hw (ok_bn hr (abs_add a1 a2) (by omega))⟩

theorem mul_bag (h : St W w L) (h1 : ⟨u, x, N, c⟩ ∈ L) (h2 : ⟨v, y, M, d⟩ ∈ L) (hN : N ≤ 100000) (hM : M ≤ 100000) (hs : N < 100 ∨ M < 100) :
    Calls Tryz.prog 20 #[u, v] w fun e w' => ∃ r, e = .returned r ∧ St W w' (⟨r, x * y, N + M, true⟩ :: L) := by
  obtain ⟨nb, ao, n, ca, rfl, b1, n1, a1, _⟩ := h.bag _ h1
  obtain ⟨mb, bo, m, cb, rfl, b2, n2, a2, _⟩ := h.bag _ h2
  refine (mul_any nb mb ao n ca bo m cb x y w b1 b2 (by simp only at n1 n2; omega)).mono fun e w' ⟨nr, ro, k, cr, he, hr, hw⟩ => ⟨_, he, h.push hw (ok_bn hr (abs_mul a1 a2) (by omega))⟩

end

/-- a small raw argument -/
theorem ok_raw {w : World} {nb : Bool} {ao : Option Addr} {n ca : Nat} {zs : List Int} (h : Sl w ao n ca zs) (N : Nat) (hn : n ≤ N) (hN : N ≤ 100000) : Ent.Ok w ⟨.agg #[.bool nb, .slice ao n ca], sgd nb zs, N, false⟩ := by
  refine ⟨nb, ao, n, ca, rfl, ⟨⟨zs, h, rfl⟩, by omega⟩, hn, ?_, fun e => by cases e⟩
  simp only
  rw [sgd_natAbs h.wf]
  have h1 := num_lt h.wf
  have h2 := num_nonneg h.wf
  rw [h.len] at h1
  have h3 : ((num zs).toNat : Int) < ((4294967296 ^ n : Nat) : Int) := by rw [Int.toNat_of_nonneg h2, Int.natCast_pow]; exact h1
  exact Nat.lt_of_lt_of_le (Int.ofNat_lt.1 h3) (pow_le hn)

theorem slim_yes (nb : Bool) (ao : Option Addr) (n ca k : Nat) (w : World) (h : n ≤ k) :
    Calls Tryz.prog 12 #[.agg #[.bool nb, .slice ao n ca], .int .i64 k] w fun e w' => e = .returned (.bool true) ∧ Ext w w' :=
  (slim_any nb ao n ca k w).mono fun _ _ ⟨he, hw⟩ => ⟨by rw [he]; simp [h], hw⟩
theorem slim_no (nb : Bool) (ao : Option Addr) (n ca k : Nat) (w : World) (h : ¬ n ≤ k) :
    Calls Tryz.prog 12 #[.agg #[.bool nb, .slice ao n ca], .int .i64 k] w fun e w' => e = .returned (.bool false) ∧ Ext w w' :=
  (slim_any nb ao n ca k w).mono fun _ _ ⟨he, hw⟩ => ⟨by rw [he]; simp [h], hw⟩
end Go.Proofs.YtlpclahlolhjfaaGreatDoor

namespace Go.Proofs.YtlpclahlolhjfaaGreatDoor
open Go.RowKit

theorem or_hl {h l : Int} (h0 : 0 ≤ h) (h1 : h < 4294967296) (l0 : 0 ≤ l) (l1 : l < 4294967296) : bits BinOp.or IntKind.u64 (h * 4294967296) l = h * 4294967296 + l := by
  obtain ⟨a, rfl⟩ := Int.eq_ofNat_of_zero_le h0
  obtain ⟨b, rfl⟩ := Int.eq_ofNat_of_zero_le l0
  have e := bits_or_u64_nat (a * 4294967296) b (by omega) (by omega)
  have e2 : a * 4294967296 ||| b = a * 4294967296 + b := by
    have := Nat.two_pow_add_eq_or_of_lt (i := 32) (b := b) (by omega) a
    rw [show (2 : Nat) ^ 32 = 4294967296 from rfl] at this
    rw [Nat.mul_comm a, ← this]
  rw [e2] at e
  simpa using e

set_option maxRecDepth 100000 in
set_option maxHeartbeats 1000000 in
theorem div32_any (h l y : Int) (w : World) (h0 : 0 ≤ h) (hy : h < y) (y1 : y < 4294967296) (l0 : 0 ≤ l) (l1 : l < 4294967296) :
    Calls Tryz.prog 143 #[.int .u32 h, .int .u32 l, .int .u32 y] w fun e w' => e = .returned (.tuple #[.int .u32 ((h * 4294967296 + l) / y), .int .u32 ((h * 4294967296 + l) % y)]) ∧ ∃ q, w' = w.drewN q := by
  have hyb : (y != 0) = true := by simp; omega
  have hq0 : 0 ≤ (h * 4294967296 + l) / y := Int.ediv_nonneg (by omega) (by omega)
  have hq1 : (h * 4294967296 + l) / y < 4294967296 := by
    apply Int.ediv_lt_of_lt_mul (by omega)
    have : (h + 1) * 4294967296 ≤ y * 4294967296 := Int.mul_le_mul_of_nonneg_right (by omega) (by omega)
    rw [Int.mul_comm 4294967296 y]
    omega
  have hr0 : 0 ≤ (h * 4294967296 + l) % y := Int.emod_nonneg _ (by omega)
  have hr1 : (h * 4294967296 + l) % y < y := Int.emod_lt_of_pos _ (by omega)
  have hor := or_hl h0 (by omega) l0 l1
  have hge : decide (y ≤ h) = false := by simp; omega
  go_enter Tryz.func143, Tryz.ntmps143
  go_wp2
  go_quiet (fail)
  go_wp2
  go_ret2
  exact ⟨rfl, nq, rfl⟩
end Go.Proofs.YtlpclahlolhjfaaGreatDoor

namespace Go.Proofs.YtlpclahlolhjfaaGreatDoor
open Go.RowKit

/-- from limb k on the quotient stands in Q, and r is left -/
def Quot (L Q : List Int) (k : Nat) (r b : Int) : Prop :=
  Q.length = L.length ∧ Wf Q ∧ 0 ≤ r ∧ r < b ∧ num (L.drop k) = num (Q.drop k) * b + r

theorem num_drop (zs : List Int) (j : Nat) (h : j < zs.length) : num (zs.drop j) = zs.getD j 0 + 4294967296 * num (zs.drop (j + 1)) := by
  rw [List.drop_eq_getElem_cons h, ← getD_at h]; rfl

theorem Quot.step {L Q : List Int} {j : Nat} {r b : Int} (h : Quot L Q (j + 1) r b) (hj : j < L.length) (hq : 0 ≤ (r * 4294967296 + L.getD j 0) / b ∧ (r * 4294967296 + L.getD j 0) / b < 4294967296) (hb : 0 < b) :
    Quot L (Q.set j ((r * 4294967296 + L.getD j 0) / b)) j ((r * 4294967296 + L.getD j 0) % b) b := by
  obtain ⟨h1, h2, h3, h4, h5⟩ := h
  refine ⟨by simpa using h1, h2.set _ hq, Int.emod_nonneg _ (by omega), Int.emod_lt_of_pos _ hb, ?_⟩
  rw [num_drop L j hj, num_drop (Q.set j _) j (by simpa [h1] using hj), h5, List.drop_set_of_lt (by omega)]
  have e : (Q.set j ((r * 4294967296 + L.getD j 0) / b)).getD j 0 = (r * 4294967296 + L.getD j 0) / b := by
    simp [List.getD, h1, hj]
  rw [e]
  have ed := Int.mul_ediv_add_emod (r * 4294967296 + L.getD j 0) b
  rw [Int.mul_comm] at ed
  rw [Int.add_mul, Int.mul_assoc, Int.mul_add]
  omega

set_option maxRecDepth 100000 in
set_option maxHeartbeats 1000000 in
theorem divLimb_any (a : Nat) (ao : Option Addr) (n ca : Nat) (b : Int) (w : World) (ha : Sl w ao n ca (limbs a)) (hb0 : 0 < b) (hb1 : b < 4294967296) :
    Calls Tryz.prog 136 #[.slice ao n ca, .int .u32 b] w fun e w' => ∃ qo qk qc ro rk rc, e = .returned (.tuple #[.slice qo qk qc, .slice ro rk rc]) ∧
      Sl w' qo qk qc (limbs (a / b.toNat)) ∧ Sl w' ro rk rc (limbs (a % b.toNat)) ∧ Below w.heap.size w w' := by
  have hn := ha.big
  go_enter Tryz.func136, Tryz.ntmps136
  go_wp2_with (refine wpList_make_u32 _ rfl _ _ rfl _ n rfl rfl rfl hn ?_)
  intro w1 hb1' hw1
  have hsa := ha.cells.stay_below hw1 (Nat.le_refl _)
  have hal := ha.len
  have HAL := Lib.hid hal; clear hal
  have hwa := ha.wf
  generalize hg : w.heap.size = g at *
  have HG := Lib.hid hg; clear hg
  go_wp2
  go_loopw [6, 7] (fun r i wr => ∃ (k : Nat) (rr : Int) (Q : List Int), k ≤ n ∧ i = .int .i64 ((k : Int) - 1) ∧ r = .int .u32 rr ∧ Quot (limbs a) Q k rr b ∧ Blk wr g Q ∧ Only g w1 wr)
    (fun _ i _ => (intOf i + 1).toNat)
  case atStart => exact ⟨n, 0, _, Nat.le_refl _, rfl, rfl, ⟨by simp [HAL.out], Wf.replicate _, by omega, hb0, by rw [List.drop_eq_nil_of_le (by rw [HAL.out]; exact Nat.le_refl _), List.drop_eq_nil_of_le (by simp)]; simp [num]⟩, hb1', Only.refl g w1⟩
  case round =>
    obtain ⟨k, rr, Q, hk, rfl, rfl, hQ, hbk, ho⟩ := hrel
    have HQ := Lib.hid hQ; clear hQ
    by_cases hlt : 0 < k
    · obtain ⟨j, rfl⟩ : ∃ j, k = j + 1 := ⟨k - 1, by omega⟩
      obtain ⟨bb, ob, rfl, hcb⟩ := hsa _ ho (by rw [HAL.out]; omega)
      have c1 := hcb j (by rw [HAL.out]; omega)
      clear hcb
      have hxr := hwa.getD j
      obtain ⟨x, hx⟩ : ∃ x, (limbs a).getD j 0 = x := ⟨_, rfl⟩
      rw [hx] at c1 hxr
      have HX := Lib.hid hx; clear hx
      obtain ⟨x0, x1⟩ := hxr
      have r0 := HQ.out.2.2.1
      have r1 := HQ.out.2.2.2.1
      have c2 := hbk.cell j (by rw [HQ.out.1, HAL.out]; omega)
      have c3 := hbk.frozen j
      have ej : ((j + 1 : Nat) : Int) - 1 = (j : Int) := by omega
      rw [ej]
      clear ej
      go_wp2_with fail
      refine (div32_any rr x b wr r0 r1 hb1 x0 x1).mono ?_
      rintro e w2 ⟨rfl, q, rfl⟩
      go_wp2
      go_roundw
      case rel =>
        have hq0 : 0 ≤ (rr * 4294967296 + x) / b := Int.ediv_nonneg (by omega) (by omega)
        have hq1 : (rr * 4294967296 + x) / b < 4294967296 := by
          apply Int.ediv_lt_of_lt_mul hb0
          have : (rr + 1) * 4294967296 ≤ b * 4294967296 := Int.mul_le_mul_of_nonneg_right (by omega) (by omega)
          rw [Int.mul_comm 4294967296 b]
          omega
        have st := HQ.out.step (by rw [HAL.out]; omega) (by rw [HX.out]; exact ⟨hq0, hq1⟩) hb0
        rw [HX.out] at st
        exact ⟨j, _, _, by omega, by go_num, rfl, st, (hbk.drewN q).set _ _, (ho.drewN q).setCell _ _⟩
      case measure => simp [intOf] <;> omega
    · obtain rfl : k = 0 := by omega
      have hlen : Q.length = n := by rw [HQ.out.1, HAL.out]
      go_wp2_with fail
      refine (trim_sl _ _ _ Q wr (hbk.sl HQ.out.2.1 hlen hn (Nat.le_refl _))).mono ?_
      rintro e w4 ⟨i, rfl, hs, rfl⟩
      have HLn := Lib.hid hlen; clear hlen
      go_wp2_with fail
      have hbr : Blk (wr.alloc (.cells #[.int .u32 rr] 66)) wr.heap.size [rr] := heap_alloc_new wr _
      refine (trim_sl _ _ _ [rr] _ (hbr.sl (n := 1) (Wf.cons ⟨HQ.out.2.2.1, by have := HQ.out.2.2.2.1; omega⟩ Wf.nil) rfl (by omega) (Nat.le_refl _))).mono ?_
      rintro e w5 ⟨i2, rfl, hs2, rfl⟩
      have hbw := (Below.refl wr.heap.size wr).alloc (Nat.le_refl _) (.cells #[.int .u32 rr] 66)
      go_wp2
      go_ret2
      obtain ⟨_, hwf, r0, r1, he⟩ := HQ.out
      rw [List.drop_zero, List.drop_zero, num_limbs] at he
      have hq0 := num_nonneg hwf
      have hdv : num Q = (a : Int) / b := by
        rw [he, Int.add_comm, Int.add_mul_ediv_right _ _ (by omega), Int.ediv_eq_zero_of_lt r0 r1]; omega
      have hmd : rr = (a : Int) % b := by
        rw [he, Int.add_comm, Int.add_mul_emod_self_right, Int.emod_eq_of_lt r0 r1]
      have hbn : ((b.toNat : Nat) : Int) = b := Int.toNat_of_nonneg (by omega)
      refine ⟨_, i, _, _, i2, _, rfl, ?_, ?_, ?_⟩
      · have := hs.below hbw
        rw [hdv, ← hbn, ← Int.natCast_ediv, Int.toNat_natCast] at this
        exact this
      · have e2 : num [rr] = rr := by simp [num]
        have e3 : (num [rr]).toNat = a % b.toNat := by rw [e2, hmd, ← hbn, ← Int.natCast_emod, Int.toNat_natCast, hbn]
        rw [e3] at hs2
        exact hs2
      · rw [HG.out]
        have hb2 := hw1.trans (ho.below (Nat.le_refl g))
        exact hb2.trans (hbw.mono (Nat.le_of_lt hbk.lt))
end Go.Proofs.YtlpclahlolhjfaaGreatDoor

namespace Go.Proofs.YtlpclahlolhjfaaGreatDoor
open Go.RowKit

set_option maxRecDepth 100000 in
set_option maxHeartbeats 1000000 in
theorem divide_less (a b : Nat) (ao bo : Option Addr) (n m ca cb : Nat) (w : World) (ha : Sl w ao n ca (limbs a)) (hb : Sl w bo m cb (limbs b)) (hab : a < b) :
    Calls Tryz.prog 116 #[.slice ao n ca, .slice bo m cb] w fun e w' => ∃ qo qk qc ro rk rc, e = .returned (.tuple #[.slice qo qk qc, .slice ro rk rc]) ∧
      Sl w' qo qk qc (limbs (a / b)) ∧ Sl w' ro rk rc (limbs (a % b)) ∧ Below w.heap.size w w' := by
  have hs : decide (sgn3 (a : Int) b < 0) = true := by simp [sgn3]; omega
  have H := Lib.hid hab; clear hab
  go_enter Tryz.func116, Tryz.ntmps116
  go_wp2_with fail
  refine (compare_any _ _ _ _ _ _ _ _ _ ha hb).mono ?_
  rintro e w1 ⟨rfl, q, rfl⟩
  go_wp2_with fail
  refine (clone_any _ _ _ _ _ (ha.drewN q)).mono ?_
  rintro e w2 ⟨rfl, hb2, hw2⟩
  go_wp2
  go_ret2
  refine ⟨_, _, _, _, _, _, rfl, ?_, ?_, ?_⟩
  · rw [Nat.div_eq_of_lt H.out, limbs_zero]; exact Sl.nil _
  · rw [Nat.mod_eq_of_lt H.out]
    exact hb2.sl (Wf.limbs a) ha.len ha.big (Nat.le_refl _)
  · exact (below_drewN (Below.refl _ w) q).trans hw2

set_option maxRecDepth 100000 in
set_option maxHeartbeats 1000000 in
theorem divide_limb (a b : Nat) (ao bo : Option Addr) (n ca cb : Nat) (w : World) (ha : Sl w ao n ca (limbs a)) (hb : Sl w bo 1 cb (limbs b)) (hab : b ≤ a) :
    Calls Tryz.prog 116 #[.slice ao n ca, .slice bo 1 cb] w fun e w' => ∃ qo qk qc ro rk rc, e = .returned (.tuple #[.slice qo qk qc, .slice ro rk rc]) ∧
      Sl w' qo qk qc (limbs (a / b)) ∧ Sl w' ro rk rc (limbs (a % b)) ∧ Below w.heap.size w w' := by
  have hs : decide (sgn3 (a : Int) b < 0) = false := by simp [sgn3]; omega
  have H := Lib.hid hab; clear hab
  obtain ⟨bb, ob, rfl, hc⟩ := hb.cells (by rw [hb.len]; omega)
  have c1 := hc 0 (by rw [hb.len]; omega)
  clear hc
  have hbl := hb.len
  have hb1 := (limbs_len_le b 1).1 (by omega)
  have hbn : b ≠ 0 := by rintro rfl; rw [limbs_zero] at hbl; cases hbl
  have hb0 : (limbs b).getD 0 0 = (b : Int) := by
    rw [limbs_pos hbn]; simp [List.getD]; omega
  rw [hb0, Nat.add_zero] at c1
  have HBL := Lib.hid hbl; clear hbl hb0
  go_enter Tryz.func116, Tryz.ntmps116
  go_wp2_with fail
  refine (compare_any _ _ _ _ _ _ _ _ _ ha hb).mono ?_
  rintro e w1 ⟨rfl, q, rfl⟩
  go_wp2_with fail
  refine (divLimb_any _ _ _ _ (b : Int) _ (ha.drewN q) (by omega) (by omega)).mono ?_
  rintro e w2 ⟨qo, qk, qc, ro, rk, rc, rfl, hq, hr, hw2⟩
  go_wp2
  go_ret2
  rw [Int.toNat_natCast] at hq hr
  exact ⟨_, _, _, _, _, _, rfl, hq, hr, (below_drewN (Below.refl _ w) q).trans hw2⟩
end Go.Proofs.YtlpclahlolhjfaaGreatDoor
