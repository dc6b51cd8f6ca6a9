import Derived.Test.YtlpclahlolhjfaaGreatDoorMoRlU18
import Derived.Test.YtlpclahlolhjfaaGreatDoorMoRlU13
import Derived.Test.YtlpclahlolhjfaaGreatDoorMoRlU0
import Derived.Test.YtlpclahlolhjfaaGreatDoorMoRlU33
import Derived.Test.YtlpclahlolhjfaaGreatDoorMoRlU1
import Derived.Deep.RegionHeld3
import Derived.Deep.CutRange
import Derived.Deep.CutBlock
import Derived.Test.YtlpclahlolhjfaaGreatDoorProg
import Derived.Test.YtlpclahlolhjfaaGreatDoorMoRlU16
import Derived.Test.YtlpclahlolhjfaaGreatDoorMoRlU11
namespace Go.Proofs.YtlpclahlolhjfaaGreatDoor
open Go.RowKit

set_option maxRecDepth 100000 in
set_option maxHeartbeats 1000000 in
theorem root_zero (ao : Option Addr) (ca : Nat) (w : World) :
    Calls Tryz.prog 87 #[.slice ao 0 ca] w fun e w' => e = .returned (.slice none 0 0) ∧ w = w' := by
  go_enter Tryz.func87, Tryz.ntmps87
  go_wp2
  go_ret
  exact ⟨rfl, rfl⟩

/-- the root of every number of at most 150 limbs -/
theorem root_all (a : Nat) (ao : Option Addr) (n ca : Nat) (w : World) (h : Sl w ao n ca (limbs a)) (hn : n ≤ 150) :
    Calls Tryz.prog 87 #[.slice ao n ca] w fun e w' => ∃ ro k rc s, e = .returned (.slice ro k rc) ∧ Sl w' ro k rc (limbs s) ∧ s * s ≤ a ∧ a < (s + 1) * (s + 1) ∧ Below w.heap.size w w' := by
  by_cases h0 : a = 0
  · subst h0
    have hl := h.len
    rw [limbs_zero] at hl
    subst hl
    exact (root_zero ao ca w).mono fun e w' ⟨he, hw⟩ => ⟨none, 0, 0, 0, he, by rw [limbs_zero]; exact Sl.nil w', by omega, by omega, by rw [← hw]; exact Below.refl _ _⟩
  · exact root_any a ao n ca w h hn h0

set_option maxRecDepth 100000 in
set_option maxHeartbeats 1000000 in
theorem sqrt_any (nb : Bool) (ao : Option Addr) (n cap : Nat) (x : Int) (w : World) (h : Bg w nb ao n cap x) (hn : n ≤ 150) (hx0 : 0 ≤ x) :
    Calls Tryz.prog 42 #[.agg #[.bool nb, .slice ao n cap]] w fun e w' => ∃ nr ro k cr, ∃ s : Nat, e = .returned (.tuple #[.agg #[.bool nr, .slice ro k cr], .int .i64 0]) ∧ Bn w' nr ro k cr s ∧ s * s ≤ x.natAbs ∧ x.natAbs < (s + 1) * (s + 1) ∧ Below w.heap.size w w' := by
  have hbg := h
  obtain ⟨⟨zs, hs, hx⟩, hsm⟩ := h
  have eax : (num zs).toNat = x.natAbs := by rw [hx, sgd_natAbs hs.wf]
  have hsg : 0 ≤ sgn3 x 0 := by unfold sgn3; split <;> (try split) <;> omega
  clear hx
  go_enter Tryz.func42, Tryz.ntmps42
  go_wp2_with fail
  obtain ⟨W, hW, hB, hbx, hrx, hz⟩ := boxes1 w nb ao n cap
  rw [← hW]
  clear hW
  have hs0 := hs.below hB
  have hbg0 := hbg.below hB
  generalize hBe : w.heap.size = B at *
  have HBe := Lib.hid hBe; clear hBe
  have k0 := hbx.c0
  have k1 := hbx.c1
  go_wp2_with fail
  refine (sign_any nb ao n cap x W hbg0).mono ?_
  rintro e w1 ⟨rfl, hw1⟩
  have x1 := hbx.below hw1
  have y1 := hrx.below hw1
  have hs1 := hs0.below hw1
  obtain ⟨b1, l1⟩ := bnext hB (by omega) hw1
  have hsz1 := hw1.size
  generalize sgn3 x 0 = s0 at *
  clear k0 k1 hbx hrx hs0 hbg0 hbg hw1 hs
  have k0 := x1.c0
  have k1 := x1.c1
  obtain ⟨m, hm, hs2, ht2⟩ := trim_at _ _ _ _ _ hs1
  rw [eax] at hs2
  have HT := Lib.hid ht2; clear ht2
  go_wp2_with fail
  refine (HT.out w1 hs1).mono ?_
  rintro e w2 ⟨rfl, rfl⟩
  go_wp2_with fail
  refine (root_all x.natAbs ao m cap w1 hs2 (by omega)).mono ?_
  rintro e w3 ⟨so, sk, sc, s, rfl, hs3, hq1, hq2, hw3⟩
  have y3 := y1.below hw3
  obtain ⟨b3, l3⟩ := bnext b1 l1 hw3
  have HQ1 := Lib.hid hq1
  have HQ2 := Lib.hid hq2
  clear hq1 hq2 y1 x1 hs1 hs2 k0 k1 hw3 HT
  go_wp2_with fail
  refine (signed_any _ _ _ _ _ _ hs3).mono ?_
  rintro e w5 ⟨ro, cr, rfl, hs5, hw5⟩
  have y5 := y3.below hw5
  obtain ⟨b5, l5⟩ := bnext b3 l3 hw5
  have q0 := y5.c0
  have q1 := y5.c1
  have q2 := y5.f 0
  have q3 := y5.f 1
  have z5 := y5.stored false ro sk cr
  have z0 := z5.c0
  have z1 := z5.c1
  have hres := bn_of (x := (s : Int)) (nb := false) (nr := false) (hs5.only_box y5 (only_set2 w5 (B + 1) (.bool false) (.slice ro sk cr))) (by simp) (by simp)
  have HRES := Lib.hid hres; clear hres
  have hbl := b5.trans ((only_set2 w5 (B + 1) (.bool false) (.slice ro sk cr)).below (Nat.le_succ B))
  go_wp2
  refine bodyPost_ret (v := .tuple #[.agg #[.bool false, .slice ro sk cr], .int .i64 0]) (by simp [results, Tryz.results42, go_sem, z0, z1]) rfl ⟨_, ro, sk, cr, s, rfl, HRES.out, HQ1.out, HQ2.out, ?_⟩
  rw [HBe.out]; exact hbl
end Go.Proofs.YtlpclahlolhjfaaGreatDoor

namespace Go.Proofs.YtlpclahlolhjfaaGreatDoor

/-- the greatest common divisor of two numbers that are not negative -/
def gz (x y : Int) : Nat := Nat.gcd x.toNat y.toNat
theorem gz_step {x y q r : Int} (hy : 0 ≤ y) (hr : 0 ≤ r) (hq : 0 ≤ q) (e : x = q * y + r) : gz y r = gz x y := by
  obtain ⟨y, rfl⟩ := Int.eq_ofNat_of_zero_le hy
  obtain ⟨r, rfl⟩ := Int.eq_ofNat_of_zero_le hr
  obtain ⟨q, rfl⟩ := Int.eq_ofNat_of_zero_le hq
  have e' : x = ((q * y + r : Nat) : Int) := by rw [e]; push_cast; rfl
  rw [e']
  unfold gz
  rw [Int.toNat_natCast, Int.toNat_natCast, Int.toNat_natCast, Nat.add_comm, Nat.mul_comm]
  rw [Nat.gcd_comm (r + y * q) y, Nat.gcd_add_mul_left_right]

/-- u, v and the cofactors a, b, c, d after some steps of Euclid's algorithm for X and Y, whose leading parts are u0 and v0 -/
structure Leh (X Y u0 v0 a b c d u v : Int) : Prop where
  hu : u = a * u0 + b * v0
  hv : v = c * u0 + d * v0
  sg : (0 ≤ a ∧ b ≤ 0 ∧ c ≤ 0 ∧ 0 ≤ d ∧ u0 = d * u - b * v ∧ v0 = a * v - c * u) ∨ (a ≤ 0 ∧ 0 ≤ b ∧ 0 ≤ c ∧ d ≤ 0 ∧ u0 = b * v - d * u ∧ v0 = c * u - a * v)
  v0 : 0 ≤ v
  vu : v ≤ u
  ul : u ≤ u0
  ba : -2147483648 < a ∧ a < 2147483648
  bb : -2147483648 < b ∧ b < 2147483648
  bc : -2147483648 < c ∧ c < 2147483648
  bd : -2147483648 < d ∧ d < 2147483648
  ua : 0 ≤ u + a
  ub : 0 ≤ u + b
  vc : 0 ≤ v + c
  vd : 0 ≤ v + d
  first : b = 0 ∧ c * X + d * Y = Y ∧ a * X + b * Y = X ∨ a * X + b * Y ≤ Y ∧ c * X + d * Y < a * X + b * Y
  ord : 0 ≤ c * X + d * Y ∧ c * X + d * Y ≤ a * X + b * Y
  gcd : gz (a * X + b * Y) (c * X + d * Y) = gz X Y

theorem Leh.start {X Y u0 v0 : Int} (h0 : 0 ≤ Y) (h1 : Y ≤ X) (h2 : 0 ≤ v0) (h3 : v0 ≤ u0) : Leh X Y u0 v0 1 0 0 1 u0 v0 := by
  refine ⟨by omega, by omega, Or.inl ⟨by omega, by omega, by omega, by omega, by omega, by omega⟩, h2, h3, by omega, by omega, by omega, by omega, by omega, by omega, by omega, by omega, by omega, Or.inl ⟨rfl, by omega, by omega⟩, ⟨by omega, by omega⟩, ?_⟩
  rw [show 1 * X + 0 * Y = X by omega, show 0 * X + 1 * Y = Y by omega]

/-- a square that is small -/
theorem sq_small {c u : Int} (h0 : 0 ≤ c) (h1 : c ≤ u) (h2 : c * u < 4611686018427387904) : c < 2147483648 := by
  rcases Int.lt_or_le c 2147483648 with h | h
  · exact h
  · exfalso
    have a1 : (2147483648 : Int) * 2147483648 ≤ c * u := Int.mul_le_mul h (by omega) (by omega) (by omega)
    omega

/-- what lies between bounds: a number of leading part u with cofactors a and b -/
theorem lead_bounds {a b u u0 v0 R x y : Int} (hu : u = a * u0 + b * v0) (hx : 0 ≤ x ∧ x < R) (hy : 0 ≤ y ∧ y < R) (h : 0 ≤ a ∧ b ≤ 0) :
    R * (u + b) ≤ a * (u0 * R + x) + b * (v0 * R + y) ∧ a * (u0 * R + x) + b * (v0 * R + y) ≤ R * (u + a) := by
  have e : a * (u0 * R + x) + b * (v0 * R + y) = R * u + a * x + b * y := by
    rw [hu, Int.mul_add a, Int.mul_add b, Int.mul_add R, ← Int.mul_assoc a, ← Int.mul_assoc b, Int.mul_comm R, Int.mul_comm R]; omega
  rw [e, Int.mul_add R, Int.mul_add R]
  have a1 : a * x ≤ a * R := Int.mul_le_mul_of_nonneg_left (by omega) h.1
  have a2 : 0 ≤ a * x := Int.mul_nonneg h.1 hx.1
  have a3 : b * R ≤ b * y := Int.mul_le_mul_of_nonpos_left h.2 (by omega)
  have a4 : b * y ≤ 0 := Int.mul_nonpos_of_nonpos_of_nonneg h.2 hy.1
  rw [Int.mul_comm R b, Int.mul_comm R a]
  omega

theorem lead_bounds' {a b u u0 v0 R x y : Int} (hu : u = a * u0 + b * v0) (hx : 0 ≤ x ∧ x < R) (hy : 0 ≤ y ∧ y < R) (h : a ≤ 0 ∧ 0 ≤ b) :
    R * (u + a) ≤ a * (u0 * R + x) + b * (v0 * R + y) ∧ a * (u0 * R + x) + b * (v0 * R + y) ≤ R * (u + b) := by
  have := lead_bounds (a := b) (b := a) (u := u) (u0 := v0) (v0 := u0) (by omega) hy hx ⟨h.2, h.1⟩
  omega

/-- a quotient that both bounds have is the quotient -/
theorem quo_sure {X Y R l1 h1 l2 h2 q : Int} (hR : 0 < R) (hl : 0 < l2) (hq : 0 ≤ q) (x1 : R * l1 ≤ X) (x2 : X ≤ R * h1) (y1 : R * l2 ≤ Y) (y2 : Y ≤ R * h2) (q1 : q * h2 ≤ l1) (q2 : h1 < (q + 1) * l2) :
    q * Y ≤ X ∧ X < (q + 1) * Y ∧ 0 < Y := by
  refine ⟨?_, ?_, ?_⟩
  · have a1 : q * Y ≤ q * (R * h2) := Int.mul_le_mul_of_nonneg_left y2 hq
    have a2 : R * (q * h2) ≤ R * l1 := Int.mul_le_mul_of_nonneg_left q1 (by omega)
    rw [Int.mul_left_comm] at a2
    omega
  · have a1 : R * h1 < R * ((q + 1) * l2) := Int.mul_lt_mul_of_pos_left q2 hR
    have a2 : (q + 1) * (R * l2) ≤ (q + 1) * Y := Int.mul_le_mul_of_nonneg_left y1 (by omega)
    rw [Int.mul_left_comm] at a1
    omega
  · have := Int.mul_pos hR hl
    omega

theorem Leh.step {X Y u0 v0 a b c d u v q R x y : Int} (h : Leh X Y u0 v0 a b c d u v) (hR : 0 < R) (hX : X = u0 * R + x) (hY : Y = v0 * R + y) (hx : 0 ≤ x ∧ x < R) (hy : 0 ≤ y ∧ y < R) (hb : u0 < 4611686018427387904) (hvu : v0 ≤ u0)
    (h1 : 0 < v + c) (h2 : 0 < v + d) (hq : (u + a) / (v + c) = q) (hq' : (u + b) / (v + d) = q) :
    Leh X Y u0 v0 c d (a - q * c) (b - q * d) v (u - q * v) ∧ (-4611686018427387904 ≤ q * c ∧ q * c ≤ 4611686018427387904) ∧ (-4611686018427387904 ≤ q * d ∧ q * d ≤ 4611686018427387904) ∧ 0 ≤ q * v ∧ q * v ≤ u ∧ u - q * v < v ∧ 0 ≤ q ∧ q ≤ u + a := by
  obtain ⟨hu, hv, sg, hv0, hvu', hul, ba, bb, bc, bd, ua, ub, vc, vd, first, ord, gcd⟩ := h
  have q0 : 0 ≤ q := by rw [← hq]; exact Int.ediv_nonneg ua (by omega)
  have qm : q ≤ u + a := by rw [← hq]; exact Int.ediv_le_self _ ua
  have e1 := Int.mul_ediv_add_emod (u + a) (v + c)
  have e2 := Int.mul_ediv_add_emod (u + b) (v + d)
  have r1 := Int.emod_nonneg (u + a) (show v + c ≠ 0 by omega)
  have r2 := Int.emod_nonneg (u + b) (show v + d ≠ 0 by omega)
  have s1 := Int.emod_lt_of_pos (u + a) h1
  have s2 := Int.emod_lt_of_pos (u + b) h2
  rw [hq] at e1
  rw [hq'] at e2
  generalize (u + a) % (v + c) = m1 at *
  generalize (u + b) % (v + d) = m2 at *
  rw [Int.mul_comm, Int.mul_add] at e1 e2
  have P : (q * (c * X + d * Y) ≤ a * X + b * Y ∧ a * X + b * Y < (q + 1) * (c * X + d * Y) ∧ 0 < c * X + d * Y) := by
    rw [hX, hY]
    rcases sg with ⟨g1, g2, g3, g4, -, -⟩ | ⟨g1, g2, g3, g4, -, -⟩
    · obtain ⟨x1, x2⟩ := lead_bounds hu hx hy ⟨g1, g2⟩
      obtain ⟨y1, y2⟩ := lead_bounds' hv hx hy ⟨g3, g4⟩
      exact quo_sure hR h1 q0 x1 x2 y1 y2 (by rw [Int.mul_add]; omega) (by rw [Int.add_mul, Int.mul_add]; omega)
    · obtain ⟨x1, x2⟩ := lead_bounds' hu hx hy ⟨g1, g2⟩
      obtain ⟨y1, y2⟩ := lead_bounds hv hx hy ⟨g3, g4⟩
      exact quo_sure hR h2 q0 x1 x2 y1 y2 (by rw [Int.mul_add]; omega) (by rw [Int.add_mul, Int.mul_add]; omega)
  obtain ⟨p1, p2, p3⟩ := P
  have en : (a - q * c) * X + (b - q * d) * Y = (a * X + b * Y) - q * (c * X + d * Y) := by
    rw [Int.sub_mul, Int.sub_mul, Int.mul_add, Int.mul_assoc, Int.mul_assoc]; omega
  have gs := gz_step (x := a * X + b * Y) (y := c * X + d * Y) (q := q) (r := (a * X + b * Y) - q * (c * X + d * Y)) (by omega) (by omega) q0 (by omega)
  rw [Int.add_mul, Int.one_mul] at p2
  have hv' : u - q * v = (a - q * c) * u0 + (b - q * d) * v0 := by
    rw [Int.sub_mul, Int.sub_mul, Int.mul_assoc, Int.mul_assoc, hu, hv, Int.mul_add]; omega
  have k1 : (b - q * d) * v = b * v - d * (q * v) := by rw [Int.sub_mul, Int.mul_comm q d, Int.mul_assoc]
  have k2 : (a - q * c) * v = a * v - c * (q * v) := by rw [Int.sub_mul, Int.mul_comm q c, Int.mul_assoc]
  have k3 : d * (u - q * v) = d * u - d * (q * v) := Int.mul_sub ..
  have k4 : c * (u - q * v) = c * u - c * (q * v) := Int.mul_sub ..
  rcases sg with ⟨g1, g2, g3, g4, i1, i2⟩ | ⟨g1, g2, g3, g4, i1, i2⟩
  · have t1 : q * c ≤ 0 := Int.mul_nonpos_of_nonneg_of_nonpos q0 g3
    have t2 : 0 ≤ q * d := Int.mul_nonneg q0 g4
    have t3 : 0 ≤ q * v := Int.mul_nonneg q0 hv0
    have n1 : 0 ≤ d * (u - q * v) := Int.mul_nonneg g4 (by omega)
    have n2 : c * (u - q * v) ≤ 0 := Int.mul_nonpos_of_nonpos_of_nonneg g3 (by omega)
    have w1 : a - q * c < 2147483648 := sq_small (u := v) (by omega) (by omega) (by omega)
    have w2 : -(b - q * d) < 2147483648 := sq_small (u := v) (by omega) (by omega) (by rw [Int.neg_mul]; omega)
    refine ⟨⟨hv, hv', Or.inr ⟨g3, g4, by omega, by omega, by omega, by omega⟩, by omega, by omega, by omega, bc, bd, ⟨by omega, w1⟩, ⟨by omega, by omega⟩, by omega, by omega, by omega, by omega, ?_, ?_, ?_⟩, ⟨by omega, by omega⟩, ⟨by omega, by omega⟩, t3, by omega, by omega, q0, qm⟩
    · right
      rw [en]
      rcases first with ⟨f1, f2, f3⟩ | f
      · omega
      · omega
    · rw [en]; omega
    · rw [en, gs, gcd]
  · have t1 : 0 ≤ q * c := Int.mul_nonneg q0 g3
    have t2 : q * d ≤ 0 := Int.mul_nonpos_of_nonneg_of_nonpos q0 g4
    have t3 : 0 ≤ q * v := Int.mul_nonneg q0 hv0
    have n1 : d * (u - q * v) ≤ 0 := Int.mul_nonpos_of_nonpos_of_nonneg g4 (by omega)
    have n2 : 0 ≤ c * (u - q * v) := Int.mul_nonneg g3 (by omega)
    have w1 : -(a - q * c) < 2147483648 := sq_small (u := v) (by omega) (by omega) (by rw [Int.neg_mul]; omega)
    have w2 : (b - q * d) < 2147483648 := sq_small (u := v) (by omega) (by omega) (by omega)
    refine ⟨⟨hv, hv', Or.inl ⟨g3, g4, by omega, by omega, by omega, by omega⟩, by omega, by omega, by omega, bc, bd, ⟨by omega, by omega⟩, ⟨by omega, w2⟩, by omega, by omega, by omega, by omega, ?_, ?_, ?_⟩, ⟨by omega, by omega⟩, ⟨by omega, by omega⟩, t3, by omega, by omega, q0, qm⟩
    · right
      rw [en]
      rcases first with ⟨f1, f2, f3⟩ | f
      · omega
      · omega
    · rw [en]; omega
    · rw [en, gs, gcd]
/-- k limbs of a X + b Y stand in L, which was O before; c is what is carried -/
def Comb (X Y O : List Int) (a b : Int) (k : Nat) (L : List Int) (c : Int) : Prop :=
  L.length = O.length ∧ Wf L ∧ L.drop k = O.drop k ∧ num (L.take k) + 4294967296 ^ k * c = a * num (X.take k) + b * num (Y.take k) ∧ -2147483648 ≤ c ∧ c ≤ 2147483648

theorem Comb.start {X Y O : List Int} (a b : Int) (h : Wf O) : Comb X Y O a b 0 O 0 := ⟨rfl, h, rfl, by simp [num], by omega, by omega⟩

/-- cofactors of a pair: small, of different signs -/
def Pair (a b : Int) : Prop := (0 ≤ a ∧ b ≤ 0 ∨ a ≤ 0 ∧ 0 ≤ b) ∧ -2147483648 < a ∧ a < 2147483648 ∧ -2147483648 < b ∧ b < 2147483648

theorem mul_range {a p : Int} (h0 : 0 ≤ a) (h1 : a < 2147483648) (p0 : 0 ≤ p) (p1 : p < 4294967296) : 0 ≤ a * p ∧ a * p ≤ 9223372030412324865 := by
  have e : (2147483647 : Int) * 4294967295 = 9223372030412324865 := by decide
  have := Int.mul_le_mul (show a ≤ 2147483647 by omega) (show p ≤ 4294967295 by omega) p0 (by omega)
  exact ⟨Int.mul_nonneg h0 p0, by omega⟩

theorem Pair.range {a b p q : Int} (h : Pair a b) (p0 : 0 ≤ p) (p1 : p < 4294967296) (q0 : 0 ≤ q) (q1 : q < 4294967296) :
    (-9223372030412324865 ≤ a * p ∧ a * p ≤ 9223372030412324865) ∧ (-9223372030412324865 ≤ b * q ∧ b * q ≤ 9223372030412324865) ∧ (-9223372030412324865 ≤ a * p + b * q ∧ a * p + b * q ≤ 9223372030412324865) := by
  obtain ⟨h | h, h1, h2, h3, h4⟩ := h
  · have a1 := mul_range h.1 h2 p0 p1
    have a2 := mul_range (a := -b) (by omega) (by omega) q0 q1
    rw [Int.neg_mul] at a2
    omega
  · have a1 := mul_range (a := -a) (by omega) (by omega) p0 p1
    have a2 := mul_range h.2 h4 q0 q1
    rw [Int.neg_mul] at a1
    omega

theorem Comb.step {X Y O L : List Int} {a b c : Int} {k : Nat} (h : Comb X Y O a b k L c) (hp : Pair a b) (hX : Wf X) (hY : Wf Y) (hx : k < X.length) (hy : k < Y.length) (ho : k < O.length) (s : Int) (hs : s = c + (a * X.getD k 0 + b * Y.getD k 0)) :
    Comb X Y O a b (k + 1) (L.set k (s % 4294967296)) (s / 4294967296) := by
  obtain ⟨h1, h2, h3, h4, h5, h6⟩ := h
  have r := hp.range (hX.getD k).1 (hX.getD k).2 (hY.getD k).1 (hY.getD k).2
  refine ⟨by simpa using h1, h2.set _ ⟨by omega, by omega⟩, ?_, ?_, by omega, by omega⟩
  · have : (L.drop k).drop 1 = (O.drop k).drop 1 := by rw [h3]
    rw [List.drop_drop, List.drop_drop] at this
    rw [← this, List.drop_set_of_lt (by omega)]
  · rw [num_take_set _ _ _ (by omega), num_take_succ X k hx, num_take_succ Y k hy, Int.pow_succ, Int.mul_add, Int.mul_add]
    have e : s % 4294967296 + 4294967296 * (s / 4294967296) = s := by omega
    have e2 : (4294967296 ^ k : Int) * (s % 4294967296) + 4294967296 ^ k * 4294967296 * (s / 4294967296) = 4294967296 ^ k * s := by
      rw [Int.mul_assoc, ← Int.mul_add, e]
    have e3 : (4294967296 ^ k : Int) * s = 4294967296 ^ k * c + (a * (4294967296 ^ k * X.getD k 0) + b * (4294967296 ^ k * Y.getD k 0)) := by
      rw [hs, Int.mul_add, Int.mul_add, Int.mul_left_comm, Int.mul_left_comm (4294967296 ^ k) b]
    omega

/-- what fits into n limbs is whole -/
theorem Comb.done {X Y O L : List Int} {a b c : Int} {n : Nat} (h : Comb X Y O a b n L c) (hY : Y.length = n) (h0 : 0 ≤ a * num X + b * num Y) (h1 : a * num X + b * num Y < 4294967296 ^ n) (ho : n ≤ O.length) :
    num (L.take n) = a * num X + b * num Y := by
  obtain ⟨g1, g2, g3, g4, g5, g6⟩ := h
  have l0 := num_nonneg (g2.take n)
  have l1 := num_lt (g2.take n)
  rw [List.length_take, Nat.min_eq_left (by omega)] at l1
  have hYt : Y.take n = Y := List.take_of_length_le (by omega)
  rw [hYt] at g4
  have e : ∃ t : Int, num (L.take n) = a * num X + b * num Y + 4294967296 ^ n * t := by
    by_cases hxl : n ≤ X.length
    · have e1 := num_append (X.take n) (X.drop n)
      rw [List.take_append_drop, List.length_take, Nat.min_eq_left hxl] at e1
      refine ⟨-c - a * num (X.drop n), ?_⟩
      rw [e1, Int.mul_add, Int.mul_sub, Int.mul_neg, Int.mul_left_comm a]
      omega
    · rw [List.take_of_length_le (show X.length ≤ n by omega)] at g4
      refine ⟨-c, ?_⟩
      rw [Int.mul_neg]
      omega
  obtain ⟨t, e⟩ := e
  have hp := pow_pos' n
  generalize (4294967296 : Int) ^ n = P at *
  generalize a * num X + b * num Y = R at *
  rcases Int.lt_trichotomy t 0 with ht | ht | ht
  · exfalso
    have : P * t ≤ P * (-1) := Int.mul_le_mul_of_nonneg_left (by omega) (by omega)
    omega
  · rw [e, ht]; omega
  · exfalso
    have : P * 1 ≤ P * t := Int.mul_le_mul_of_nonneg_left (by omega) (by omega)
    omega

/-- the cofactors that a step leaves are pairs -/
theorem Leh.pairs {X Y u0 v0 a b c d u v : Int} (h : Leh X Y u0 v0 a b c d u v) : Pair a b ∧ Pair c d := by
  obtain ⟨_, _, sg, _, _, _, ba, bb, bc, bd, _, _, _, _, _, _, _⟩ := h
  refine ⟨⟨?_, ba.1, ba.2, bb.1, bb.2⟩, ⟨?_, bc.1, bc.2, bd.1, bd.2⟩⟩
  · rcases sg with g | g
    · exact Or.inl ⟨g.1, g.2.1⟩
    · exact Or.inr ⟨g.1, g.2.1⟩
  · rcases sg with g | g
    · exact Or.inr ⟨g.2.2.1, g.2.2.2.1⟩
    · exact Or.inl ⟨g.2.2.1, g.2.2.2.1⟩

theorem Comb.cut {X Y O L : List Int} {a b c : Int} {n m : Nat} (h : Comb X Y O a b n L c) (hm : n ≤ m) : Comb (X.take m) Y O a b n L c := by
  obtain ⟨g1, g2, g3, g4, g5, g6⟩ := h
  refine ⟨g1, g2, g3, ?_, g5, g6⟩
  rw [List.take_take, Nat.min_eq_left hm]
  exact g4
theorem Comb.cutY {X Y O L : List Int} {a b c : Int} {n m : Nat} (h : Comb X Y O a b n L c) (hm : n ≤ m) : Comb X (Y.take m) O a b n L c := by
  obtain ⟨g1, g2, g3, g4, g5, g6⟩ := h
  refine ⟨g1, g2, g3, ?_, g5, g6⟩
  rw [List.take_take, Nat.min_eq_left hm]
  exact g4
end Go.Proofs.YtlpclahlolhjfaaGreatDoor

namespace Go.Proofs.YtlpclahlolhjfaaGreatDoor
open Go.RowKit

def IsVal (w : World) (v : Value) (a : Nat) : Prop := ∃ ao n ca, v = .slice ao n ca ∧ Sl w ao n ca (limbs a)
theorem IsVal.unique {w : World} {v : Value} {a b : Nat} (h : IsVal w v a) (k : IsVal w v b) : a = b := by
  obtain ⟨ao, n, ca, rfl, h1⟩ := h
  obtain ⟨_, _, _, e, h2⟩ := k
  cases e
  apply limbs_inj
  apply List.ext_getElem (by rw [h1.len, h2.len])
  intro i hi hj
  obtain ⟨g, o, e1, hc⟩ := h1.cells (by omega)
  obtain ⟨g', o', e2, hc'⟩ := h2.cells (by omega)
  rw [e1] at e2
  cases e2
  have := (hc i hi).symm.trans (hc' i hj)
  rw [getD_at hi, getD_at hj] at this
  simpa using this
noncomputable def valAt (w : World) (v : Value) : Nat := by
  classical
  exact if h : ∃ x, IsVal w v x then h.choose else 0
theorem valAt_is {w : World} {v : Value} {a : Nat} (h : IsVal w v a) : valAt w v = a := by
  have hx : ∃ x, IsVal w v x := ⟨a, h⟩
  unfold valAt
  rw [dif_pos hx]
  exact hx.choose_spec.unique h

theorem OwnR.sl {w : World} {B : Nat} {ao : Option Addr} {n ca a : Nat} (h : OwnR w B ao n ca a) : Sl w ao n ca (limbs a) := by
  rcases h with ⟨rfl, rfl⟩ | ⟨g, rfl, -, h⟩
  · rw [limbs_zero]; exact Sl.empty w ao ca
  · exact h.sl
theorem OwnR.mono {w : World} {B C : Nat} {ao : Option Addr} {n ca a : Nat} (h : OwnR w B ao n ca a) (hc : C ≤ B) : OwnR w C ao n ca a :=
  h.imp id (fun ⟨g, e, hg, h⟩ => ⟨g, e, Nat.le_trans hc hg, h⟩)

/-- trimmed limbs of a block -/
theorem Owns.trim {w : World} {g m k ca : Nat} {L : List Int} (h : Blk w g L) (hw : Wf L) (hm : m ≤ L.length) (hk : (limbs (num (L.take m)).toNat).length = k) (hc : L.length = ca) (hb : L.length ≤ 1099511627776) : Owns w g k ca (num (L.take m)).toNat := by
  have e := take_tlen (hw.take m) (L.take m).length (Nat.le_refl _)
  have e2 := tlen_eq (hw.take m)
  rw [← e2, hk, List.take_length, List.take_take] at e
  have hkm : k ≤ m := by
    have := tlen_le (L.take m) (L.take m).length
    rw [← e2, hk, List.length_take] at this
    omega
  rw [Nat.min_eq_left hkm] at e
  exact ⟨L, h, hw, e, by omega, hc, hb⟩

theorem Owns.clone {w : World} {g n a : Nat} (h : Blk w g (limbs a)) (hn : (limbs a).length = n) (hb : n ≤ 1099511627776) : Owns w g n n a :=
  ⟨limbs a, h, Wf.limbs a, List.take_of_length_le (by omega), by omega, by omega, by omega⟩
theorem OwnR.below {w w' : World} {B : Nat} {ao : Option Addr} {n ca a : Nat} (h : OwnR w B ao n ca a) (hb : Below w.heap.size w w') : OwnR w' B ao n ca a :=
  h.imp id (fun ⟨g, e, hg, h⟩ => ⟨g, e, hg, h.below hb⟩)
theorem len_pos {w : World} {ao : Option Addr} {n ca a : Nat} (h : Sl w ao n ca (limbs a)) (hn : 0 < n) : a ≠ 0 := by
  rintro rfl
  have := h.len
  rw [limbs_zero] at this
  simp at this
  omega

theorem gz_nat (a b : Nat) : gz (a : Int) (b : Int) = Nat.gcd a b := by unfold gz; rw [Int.toNat_natCast, Int.toNat_natCast]

/-- what the cofactors make of two numbers in memory -/
theorem lehmer_next {X Y n : Nat} {u0 v0 a b c d u v : Int} {LX LY X' Y' : List Int} {nx : Nat} {e1 e2 : Int} (h : Leh (X : Int) Y u0 v0 a b c d u v) (hb : b ≠ 0) (hX : LX.take nx = limbs X) (hY : LY.take n = limbs Y) (hn : n ≤ nx) (hx : nx ≤ LX.length) (hy : n ≤ LY.length)
    (k1 : Comb LX LY LX a b n X' e1) (k2 : Comb LX LY LY c d n Y' e2) :
    ∃ X1 Y1 : Nat, (num (X'.take n)).toNat = X1 ∧ (num (Y'.take n)).toNat = Y1 ∧ Y1 ≤ X1 ∧ Nat.gcd X1 Y1 = Nat.gcd X Y ∧ Y1 < Y ∧ X1 < 4294967296 ^ n := by
  have hlY : (limbs Y).length = n := by rw [← hY, List.length_take]; omega
  have hYn : (Y : Int) < 4294967296 ^ n := by have := limbs_lt Y; rw [hlY] at this; exact this
  have k1 := (k1.cut hn).cutY (m := n) (Nat.le_refl _)
  have k2 := (k2.cut hn).cutY (m := n) (Nat.le_refl _)
  rw [hX, hY] at k1 k2
  have hf : a * X + b * Y ≤ Y ∧ c * X + d * Y < a * X + b * Y := by
    rcases h.first with f | f
    · exact absurd f.1 hb
    · exact f
  have o1 := h.ord.1
  have d1 := k1.done hlY (by rw [num_limbs, num_limbs]; omega) (by rw [num_limbs, num_limbs]; omega) (by omega)
  have d2 := k2.done hlY (by rw [num_limbs, num_limbs]; omega) (by rw [num_limbs, num_limbs]; omega) (by omega)
  rw [num_limbs, num_limbs] at d1 d2
  have g := h.gcd
  rw [gz_nat] at g
  refine ⟨(num (X'.take n)).toNat, (num (Y'.take n)).toNat, rfl, rfl, ?_, ?_, ?_, ?_⟩
  · rw [d1, d2]; omega
  · rw [d1, d2]; exact g
  · rw [d2]; omega
  · have : ((num (X'.take n)).toNat : Int) < 4294967296 ^ n := by rw [d1]; omega
    have h2 : ((4294967296 ^ n : Nat) : Int) = 4294967296 ^ n := by rw [Int.natCast_pow]; rfl
    rw [← h2] at this
    exact Int.ofNat_lt.1 this
end Go.Proofs.YtlpclahlolhjfaaGreatDoor

namespace Go.Proofs.YtlpclahlolhjfaaGreatDoor
open Go.RowKit

/-- block g holds cofactors -/
def Cof (W : World) (g : Nat) (a b c d : Int) : Prop := W.heap[g]? = some (.cells #[.int .i64 a, .int .i64 b, .int .i64 c, .int .i64 d] 119 (0, 0))
section
variable {W w w' : World} {g : Nat} {a b c d : Int}
theorem Cof.c0 (h : Cof W g a b c d) : W.cell? ⟨g, 0, none⟩ = some (.int .i64 a) := by rw [cell_of_row W g 0 _ _ _ h]; rfl
theorem Cof.c1 (h : Cof W g a b c d) : W.cell? ⟨g, 1, none⟩ = some (.int .i64 b) := by rw [cell_of_row W g 1 _ _ _ h]; rfl
theorem Cof.c2 (h : Cof W g a b c d) : W.cell? ⟨g, 2, none⟩ = some (.int .i64 c) := by rw [cell_of_row W g 2 _ _ _ h]; rfl
theorem Cof.c3 (h : Cof W g a b c d) : W.cell? ⟨g, 3, none⟩ = some (.int .i64 d) := by rw [cell_of_row W g 3 _ _ _ h]; rfl
theorem Cof.f (h : Cof W g a b c d) (o : Nat) : W.frozen? ⟨g, o, none⟩ = false := by
  unfold Cof at h; simp [World.frozen?, h]
theorem Cof.lt (h : Cof w g a b c d) : g < w.heap.size := lt_of_cell h.c0
theorem Cof.kept {B : Nat} (h : Cof w g a b c d) (hb : Below B w w') (hg : g < B) : Cof w' g a b c d := by
  unfold Cof; rw [hb.block g hg]; exact h
theorem Cof.below (h : Cof w g a b c d) (hb : Below w.heap.size w w') : Cof w' g a b c d := h.kept hb h.lt
theorem Cof.only {k : Nat} (h : Cof w g a b c d) (ho : Only k w w') (hne : g ≠ k) : Cof w' g a b c d := by
  unfold Cof; rw [ho.block g hne]; exact h
end
theorem Cof.new (w : World) (a b c d : Int) : Cof (w.alloc (.cells #[.int .i64 a, .int .i64 b, .int .i64 c, .int .i64 d] 119)) w.heap.size a b c d := heap_alloc_new w _
theorem Cof.stored {w : World} {g : Nat} {a b c d : Int} (h : Cof w g a b c d) (a' b' c' d' : Int) :
    Cof ((((w.setCell ⟨g, 0, none⟩ (.int .i64 a')).setCell ⟨g, 1, none⟩ (.int .i64 b')).setCell ⟨g, 2, none⟩ (.int .i64 c')).setCell ⟨g, 3, none⟩ (.int .i64 d')) g a' b' c' d' := by
  unfold Cof at h ⊢
  simp [World.setCell, Array.getElem?_modify, h]
theorem only_cset4 (w : World) (g : Nat) (u v x y : Value) : Only g w ((((w.setCell ⟨g, 0, none⟩ u).setCell ⟨g, 1, none⟩ v).setCell ⟨g, 2, none⟩ x).setCell ⟨g, 3, none⟩ y) := ((((Only.refl g w).setCell _ _).setCell _ _).setCell _ _).setCell _ _
theorem cof_new (w : World) (a b c d : Int) :
    ∃ W, W = w.alloc (.cells #[.int .i64 a, .int .i64 b, .int .i64 c, .int .i64 d] 119) ∧ Below w.heap.size w W ∧ Cof W w.heap.size a b c d ∧ w.heap.size + 1 ≤ W.heap.size :=
  ⟨_, rfl, (Below.refl _ w).alloc (Nat.le_refl _) _, Cof.new w a b c d, by simp⟩
end Go.Proofs.YtlpclahlolhjfaaGreatDoor

namespace Go.Proofs.YtlpclahlolhjfaaGreatDoor
open Go.RowKit

/-- what three limbs say -/
theorem three_limbs {N k : Nat} (hk : k < 32) (h : N / 2 ^ k < 18446744073709551616) :
    ∃ l0 l1 l2 : Nat, N % 4294967296 = l0 ∧ N / 4294967296 % 4294967296 = l1 ∧ N / 4294967296 / 4294967296 % 4294967296 = l2 ∧ l0 < 4294967296 ∧ l1 < 4294967296 ∧ l2 * 2 ^ (64 - k) < 18446744073709551616 ∧ (l0 + l1 * 4294967296) / 2 ^ k + l2 * 2 ^ (64 - k) = N / 2 ^ k ∧ (l0 + l1 * 4294967296) / 2 ^ k < 2 ^ (64 - k) := by
  have hp : 0 < 2 ^ k := Nat.pow_pos (by omega)
  have hp2 : 2 ^ k * 2 ^ (64 - k) = 18446744073709551616 := by rw [← Nat.pow_add, show k + (64 - k) = 64 by omega]
  have hk2 : 2 ^ k ≤ 2147483648 := by
    have := Nat.pow_le_pow_right (show 0 < 2 by omega) (show k ≤ 31 by omega)
    omega
  have hN : N < 18446744073709551616 * 2 ^ k := (Nat.div_lt_iff_lt_mul hp).1 h
  have hl2 : N / 4294967296 / 4294967296 < 2 ^ k := by
    rw [Nat.div_div_eq_div_mul]
    exact Nat.div_lt_of_lt_mul (by omega)
  have hm : N / 4294967296 / 4294967296 % 4294967296 = N / 4294967296 / 4294967296 := Nat.mod_eq_of_lt (by omega)
  refine ⟨_, _, _, rfl, rfl, rfl, Nat.mod_lt _ (by omega), Nat.mod_lt _ (by omega), ?_, ?_, ?_⟩
  · rw [hm]
    calc _ < 2 ^ k * 2 ^ (64 - k) := Nat.mul_lt_mul_of_pos_right hl2 (Nat.pow_pos (by omega))
      _ = _ := hp2
  · rw [hm]
    have e : N = (N % 4294967296 + N / 4294967296 % 4294967296 * 4294967296) + 2 ^ k * (2 ^ (64 - k) * (N / 4294967296 / 4294967296)) := by
      rw [← Nat.mul_assoc, hp2]; omega
    conv => rhs; rw [e]
    rw [Nat.add_mul_div_left _ _ hp, Nat.mul_comm (2 ^ (64 - k))]
  · refine Nat.div_lt_of_lt_mul ?_
    rw [hp2]; omega

theorem limb_next (a s : Nat) : a / 4294967296 ^ (s + 1) = a / 4294967296 ^ s / 4294967296 := by
  rw [Nat.pow_succ, Nat.div_div_eq_div_mul]

set_option maxRecDepth 100000 in
set_option maxHeartbeats 2000000 in
theorem bitsN_any (a e : Nat) (ao : Option Addr) (n ca : Nat) (w : World) (hs : Sl w ao n ca (limbs a)) (he : e ≤ 30000000000) (ha : a / 2 ^ e < 18446744073709551616) :
    Calls Tryz.prog 120 #[.slice ao n ca, .int .i64 (e : Int)] w fun r w' => r = .returned (.int .u64 ((a / 2 ^ e : Nat) : Int)) ∧ Below w.heap.size w w' := by
  obtain ⟨s, k, hk, rfl⟩ : ∃ s k, k < 32 ∧ e = s * 32 + k := ⟨e / 32, e % 32, by omega, by omega⟩
  have e1 : a / 2 ^ (s * 32 + k) = a / 4294967296 ^ s / 2 ^ k := by rw [pow32, Nat.div_div_eq_div_mul]
  rw [e1] at ha ⊢
  obtain ⟨u, v, z, hu, hv, hz, u1, v1, z1, hsum, hlow⟩ := three_limbs hk ha
  have l0 := limbs_at a s
  have l1 := limbs_at a (s + 1)
  have l2 := limbs_at a (s + 2)
  rw [show s + 2 = s + 1 + 1 from rfl, limb_next, limb_next, hz] at l2
  rw [limb_next, hv] at l1
  rw [hu] at l0
  rw [← hsum]
  clear hsum ha hu hv hz e1
  have hd : ((s * 32 + k : Nat) : Int) / 32 = (s : Int) := by omega
  have hr : ((s * 32 + k : Nat) : Int) % 32 = (k : Int) := by omega
  obtain ⟨x, hx⟩ : ∃ x : Int, ((s * 32 + k : Nat) : Int) = x := ⟨_, rfl⟩
  rw [hx] at hd hr ⊢
  have hx0 : 0 ≤ x := by omega
  have hx1 : x ≤ 30000000000 := by omega
  have hsb : s ≤ 1000000000 := by omega
  have HX := Lib.hid hx; clear hx
  have v0' : (0 : Int) ≤ (v : Int) := by omega
  have hor : bits BinOp.or IntKind.u64 (u : Int) ((v : Int) * 4294967296) = ((u + v * 4294967296 : Nat) : Int) := by
    rw [or_comm64i, or_hl (by omega) (by omega) (by omega) (by omega)]; omega
  obtain ⟨low, hlw⟩ : ∃ low : Nat, u + v * 4294967296 = low := ⟨_, rfl⟩
  rw [hlw] at hor hlow ⊢
  have hlow0 : low < 18446744073709551616 := by omega
  have hp64 : (2 : Int) ^ k * 2 ^ (64 - k) = 18446744073709551616 := by rw [← Int.pow_add, show k + (64 - k) = 64 by omega]; rfl
  have hor2 : bits BinOp.or IntKind.u64 ((low : Int) / 2 ^ k) ((z : Int) * 2 ^ (64 - k)) = ((low / 2 ^ k + z * 2 ^ (64 - k) : Nat) : Int) := by
    have f1 : (low : Int) / 2 ^ k = ((low / 2 ^ k : Nat) : Int) := by rw [Int.natCast_ediv, Int.natCast_pow]; rfl
    have f2 : (z : Int) * 2 ^ (64 - k) = ((z * 2 ^ (64 - k) : Nat) : Int) := by rw [Int.natCast_mul, Int.natCast_pow]; rfl
    rw [f1, f2, bits_or_u64_nat _ _ (Nat.lt_of_le_of_lt (Nat.div_le_self _ _) hlow0) z1, Nat.or_comm, Nat.mul_comm z, Nat.add_comm, ← Nat.two_pow_add_eq_or_of_lt hlow]
  have hz0 : (0 : Int) ≤ (z : Int) * 2 ^ (64 - k) := Int.mul_nonneg (by omega) (Int.le_of_lt (Int.pow_pos (by omega)))
  have hzm : IntKind.u64.wrap ((z : Int) * 2 ^ (64 - k)) = (z : Int) * 2 ^ (64 - k) := by
    have f2 : (z : Int) * 2 ^ (64 - k) = ((z * 2 ^ (64 - k) : Nat) : Int) := by rw [Int.natCast_mul, Int.natCast_pow]; rfl
    rw [f2, IntKind.wrap_u64]
    omega
  obtain ⟨res, hres⟩ : ∃ res : Int, ((low / 2 ^ k + z * 2 ^ (64 - k) : Nat) : Int) = res := ⟨_, rfl⟩
  rw [hres] at hor2 ⊢
  have HOR2 := Lib.hid hor2
  have HZM := Lib.hid hzm
  clear hres hp64 hlow hlw hz0 hor2 hzm
  have L0 := Lib.hid l0
  have L1 := Lib.hid l1
  have L2 := Lib.hid l2
  clear l0 l1 l2 z1
  have hgw : (w.alloc (.cells #[.slice ao n ca] 25)).cell? ⟨w.heap.size, 0, none⟩ = some (.slice ao n ca) := by go_simp
  have hB := (Below.refl w.heap.size w).alloc (Nat.le_refl _) (.cells #[.slice ao n ca] 25)
  have hs1 := hs.below hB
  go_enter Tryz.func120, Tryz.ntmps120
  go_wp2_with fail
  generalize w.alloc (.cells #[.slice ao n ca] 25) = W at *
  refine (limb_in ao n ca _ (s : Int) u _ W hgw hs1 (by omega) (by omega) (by exact L0.out)).mono ?_
  rintro e w' ⟨rfl, rfl⟩
  go_wp2_with fail
  refine (limb_in ao n ca _ ((s : Int) + 1) v _ W hgw hs1 (by omega) (by omega) (by exact L1.out)).mono ?_
  rintro e w' ⟨rfl, rfl⟩
  go_wp2
  go_quiet ((go_at_call 138; exact quiet_left (limb_in ao n ca _ ((s : Int) + 2) z _ _ (by exact hgw) (by exact hs1.drewN _) (by omega) (by omega) (by exact L2.out))))
  go_wp2
  go_ret
  refine ⟨?_, below_drewN hB _⟩
  show Ending.returned (Value.int IntKind.u64 (bits BinOp.or IntKind.u64 ((low : Int) / 2 ^ k) (IntKind.u64.wrap ((z : Int) * 2 ^ (64 - k))))) = _
  rw [HZM.out, HOR2.out]
end Go.Proofs.YtlpclahlolhjfaaGreatDoor
