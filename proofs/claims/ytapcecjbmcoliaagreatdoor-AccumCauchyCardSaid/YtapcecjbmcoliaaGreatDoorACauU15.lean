import Derived.Test.YtapcecjbmcoliaaGreatDoorACauU14
import Derived.Deep.RegionWith
namespace Go.Proofs.YtapcecjbmcoliaaGreatDoor
open Go.RowKit

theorem shift_even {N i : Nat} {X c : Nat} (hX : X = N * 2 ^ i) (h : 2 ^ 127 ≤ X) (hN : N < 2 ^ c) (hc : c ≤ 106) : X % 2 ^ 22 = 0 ∧ X % 2 = 0 := by
  have hi : 22 ≤ i := by
    rcases Nat.lt_or_ge i 22 with h1 | h1
    · exfalso
      have h2 : N * 2 ^ i < 2 ^ c * 2 ^ i := Nat.mul_lt_mul_of_pos_right hN (Nat.pow_pos (by omega))
      rw [← Nat.pow_add] at h2
      have h3 : 2 ^ (c + i) ≤ 2 ^ 127 := Nat.pow_le_pow_right (by omega) (by omega)
      exact absurd h (Nat.not_le.2 (by rw [hX]; exact Nat.lt_of_lt_of_le h2 h3))
    · exact h1
  obtain ⟨r, hr⟩ : ∃ r, i = r + 22 := ⟨i - 22, by omega⟩
  have hX2 : X = N * 2 ^ r * 2 ^ 22 := by rw [hX, hr, Nat.pow_add, ← Nat.mul_assoc]
  rw [hX2]
  refine ⟨Nat.mul_mod_left _ _, ?_⟩
  rw [show (2 : Nat) ^ 22 = 2097152 * 2 from rfl, ← Nat.mul_assoc]
  exact Nat.mul_mod_left _ _

theorem fdown_at (hi lo K : Nat) (e : Int) (t : Bool) (hh : hi < 18446744073709551616) (hl : lo < 18446744073709551616) (he0 : -1000000000000 ≤ e) (he1 : e ≤ 1000000000000) (hK : K ≤ 1000000000000) (kI eI : Int) (hk : kI = (K : Int)) (he : eI = e + K) (tn : Bool) (ht : (t || decide ((hi * 18446744073709551616 + lo) % 2 ^ K ≠ 0)) = tn) (w : World) :
    Calls Tryz.prog 121 #[.agg #[.int .u64 (hi : Int), .int .u64 (lo : Int), .int .i64 e, .bool t], .int .i64 kI] w fun r w' => ∃ H L : Nat, r = .returned (.agg #[.int .u64 (H : Int), .int .u64 (L : Int), .int .i64 eI, .bool tn]) ∧
      H * 18446744073709551616 + L = (hi * 18446744073709551616 + lo) / 2 ^ K ∧ H < 18446744073709551616 ∧ L < 18446744073709551616 ∧ Ext w w' := by
  rw [hk, he, ← ht]
  exact fdown_any hi lo K e t hh hl he0 he1 hK w

theorem ceil_le {L G d : Nat} (hd : 1 ≤ d) (h : L ≤ G * 2 ^ (d - 1)) (h2 : G % 2 = 0) : L / 2 ^ d + (if L % 2 ^ d ≠ 0 then 1 else 0) ≤ G / 2 := by
  obtain ⟨c, rfl⟩ : ∃ c, d = c + 1 := ⟨d - 1, by omega⟩
  rw [show c + 1 - 1 = c by omega] at h
  have hp : 0 < 2 ^ (c + 1) := Nat.pow_pos (by omega)
  have eg : G / 2 * 2 ^ (c + 1) = G * 2 ^ c := by rw [Nat.pow_succ', ← Nat.mul_assoc]; congr 1; omega
  rw [← eg] at h
  have hdm := Nat.div_add_mod L (2 ^ (c + 1))
  generalize 2 ^ (c + 1) = P at *
  by_cases hr : L % P = 0
  · rw [if_neg (by simpa using hr), Nat.add_zero]
    exact Nat.div_le_of_le_mul (by rw [Nat.mul_comm]; exact h)
  · rw [if_pos hr]
    have h3 : L / P < G / 2 := by
      rw [Nat.div_lt_iff_lt_mul hp]
      rcases Nat.lt_or_ge L (G / 2 * P) with h4 | h4
      · exact h4
      · exfalso
        have h5 : L = G / 2 * P := by omega
        rw [h5, Nat.mul_mod_left] at hr
        exact hr rfl
    omega

theorem fround_at (hi lo : Nat) (e : Int) (t : Bool) (s : Bool) (mode : Int) (hh : hi < 18446744073709551616) (hl : lo < 18446744073709551616) (h0 : hi * 18446744073709551616 + lo ≠ 0) (ht : t = true → 2 ^ 53 ≤ hi * 18446744073709551616 + lo) (he0 : -1000000000 ≤ e) (he1 : e ≤ 1000000000) {z : Nat} (hz : sgz s = z) (R : Nat) (hR : z + fla s (hi * 18446744073709551616 + lo) e t mode = R) (w : World) :
    Calls Tryz.prog 95 #[.agg #[.int .u64 (hi : Int), .int .u64 (lo : Int), .int .i64 e, .bool t], .int .u64 (z : Int), .int .i64 mode] w fun r w' => r = .returned (.int .u64 (R : Int)) ∧ Ext w w' := by
  have := fround_any hi lo e t s mode hh hl h0 ht he0 he1 w
  rw [hz, hR] at this
  exact this

theorem low_zero {N j X1 X0 : Nat} (h : X1 * 18446744073709551616 + X0 = N * 2 ^ j) (h1 : 9223372036854775808 ≤ X1) (hN : N < 18446744073709551616) (hX : X0 < 18446744073709551616) : X0 = 0 := by
  have hj : 64 ≤ j := by
    rcases Nat.lt_or_ge j 64 with h2 | h2
    · exfalso
      have h3 : N * 2 ^ j < 18446744073709551616 * 2 ^ j := Nat.mul_lt_mul_of_pos_right hN (Nat.pow_pos (by omega))
      have h4 : 2 ^ j ≤ 2 ^ 63 := Nat.pow_le_pow_right (by omega) (by omega)
      have h5 := Nat.mul_le_mul_left 18446744073709551616 h4
      rw [show (2 : Nat) ^ 63 = 9223372036854775808 from rfl] at h5
      have h6 := Nat.mul_le_mul_right 18446744073709551616 h1
      omega
    · exact h2
  obtain ⟨c, rfl⟩ : ∃ c, j = c + 64 := ⟨j - 64, by omega⟩
  rw [Nat.pow_add, ← Nat.mul_assoc, show (2 : Nat) ^ 64 = 18446744073709551616 from rfl] at h
  generalize N * 2 ^ c = Q at h
  omega

/-- behind the exchange: the greater number lies first -/
structure RsFacts (G1 G0 L1 L0 : Nat) (eG eL : Int) (AG BL : Nat) (m : Int) : Prop where
  g1 : G1 < 18446744073709551616
  g0 : G0 < 18446744073709551616
  l1 : L1 < 18446744073709551616
  l0 : L0 < 18446744073709551616
  eg0 : -200000 ≤ eG
  eg1 : eG ≤ 200000
  el0 : -200000 ≤ eL
  el1 : eL ≤ 200000
  qG : 2 ^ 127 ≤ G1 * 18446744073709551616 + G0
  vG : (G1 * 18446744073709551616 + G0) % 2 ^ 22 = 0 ∧ (G1 * 18446744073709551616 + G0) % 2 = 0
  vL : (L1 * 18446744073709551616 + L0) % 2 ^ 22 = 0 ∧ (L1 * 18446744073709551616 + L0) % 2 = 0
  nG : Num (G1 * 18446744073709551616 + G0) eG AG m
  nL : Num (L1 * 18446744073709551616 + L0) eL BL m
  ord : eL < eG ∨ eL = eG ∧ L1 * 18446744073709551616 + L0 ≤ G1 * 18446744073709551616 + G0

theorem two_nums {w w0 : World} {B : Nat} {a b c a' b' c' : Int} {t t' : Bool} (h : NBox w B a b c t) (h' : NBox w (B + 1) a' b' c' t') (hb : Below B w0 w) (x y z x' y' z' : Int) (u u' : Bool) :
    ∃ Z, ((((((((w.setCell ⟨B, 0, none⟩ (.int .u64 x)).setCell ⟨B, 1, none⟩ (.int .u64 y)).setCell ⟨B, 2, none⟩ (.int .i64 z)).setCell ⟨B, 3, none⟩ (.bool u)).setCell ⟨B + 1, 0, none⟩ (.int .u64 x')).setCell ⟨B + 1, 1, none⟩ (.int .u64 y')).setCell ⟨B + 1, 2, none⟩ (.int .i64 z')).setCell ⟨B + 1, 3, none⟩ (.bool u')) = Z ∧
      NBox Z B x y z u ∧ NBox Z (B + 1) x' y' z' u' ∧ Below B w0 Z := by
  refine ⟨_, rfl, ?_, ?_, ?_⟩
  · exact (h.stored x y z u).only (only_nset4 _ _ _ _ _ _) (by omega)
  · exact (h'.only (only_nset4 _ _ _ _ _ _) (by omega)).stored x' y' z' u'
  · exact (hb.trans ((only_nset4 _ _ _ _ _ _).below (Nat.le_refl _))).trans ((only_nset4 _ _ _ _ _ _).below (by omega))

set_option maxRecDepth 100000 in
set_option maxHeartbeats 8000000 in
theorem frsum_any (hx lx hy ly : Nat) (ex ey : Int) (sX sY : Bool) (mode : Int) (kx ky : Nat) (m : Int) (h1 : hx < 18446744073709551616) (h2 : lx < 18446744073709551616) (h3 : hy < 18446744073709551616) (h4 : ly < 18446744073709551616)
    (hex : ex = m + kx) (hey : ey = m + ky) (ex0 : -100000 ≤ ex) (ex1 : ex ≤ 100000) (ey0 : -100000 ≤ ey) (ey1 : ey ≤ 100000) (nx : hx * 18446744073709551616 + lx ≠ 0) (ny : hy * 18446744073709551616 + ly ≠ 0) (bx : hx * 18446744073709551616 + lx < 2 ^ 106) (bY : hy * 18446744073709551616 + ly < 18446744073709551616) (w : World) :
    Calls Tryz.prog 101 #[.agg #[.int .u64 (hx : Int), .int .u64 (lx : Int), .int .i64 ex, .bool false], .agg #[.int .u64 (hy : Int), .int .u64 (ly : Int), .int .i64 ey, .bool false], .int .u64 ((sgz sX : Nat) : Int), .int .u64 ((sgz sY : Nat) : Int), .int .i64 mode] w fun r w' =>
      r = .returned (.int .u64 ((rsum (sgi sX ((hx * 18446744073709551616 + lx) * 2 ^ kx) + sgi sY ((hy * 18446744073709551616 + ly) * 2 ^ ky)) m mode : Nat) : Int)) ∧ Ext w w' := by
  have CX := Lib.hid (fnormal_any hx lx ex false h1 h2 nx (by omega) (by omega))
  have CY := Lib.hid (fnormal_any hy ly ey false h3 h4 ny (by omega) (by omega))
  have NX := Num.unit (hx * 18446744073709551616 + lx) kx hex
  have NY := Num.unit (hy * 18446744073709551616 + ly) ky hey
  have BX := Lib.hid bx
  have BY := Lib.hid bY
  clear bx bY
  obtain ⟨A, hA⟩ : ∃ A, (hx * 18446744073709551616 + lx) * 2 ^ kx = A := ⟨_, rfl⟩
  obtain ⟨Bv, hBv⟩ : ∃ Bv, (hy * 18446744073709551616 + ly) * 2 ^ ky = Bv := ⟨_, rfl⟩
  rw [hA] at NX ⊢
  rw [hBv] at NY ⊢
  clear hA hBv
  obtain ⟨RS, hRS⟩ : ∃ RS, rsum (sgi sX A + sgi sY Bv) m mode = RS := ⟨_, rfl⟩
  rw [hRS]
  have HRS := Lib.hid hRS
  have NX := Lib.hid NX
  have NY := Lib.hid NY
  obtain ⟨zx, hzx⟩ : ∃ z, sgz sX = z := ⟨_, rfl⟩
  obtain ⟨zy, hzy⟩ : ∃ z, sgz sY = z := ⟨_, rfl⟩
  rw [hzx, hzy]
  have ZX := Lib.hid hzx
  have ZY := Lib.hid hzy
  clear hRS hzx hzy h1 h2 h3 h4 nx ny hex hey
  go_enter Tryz.func101, Tryz.ntmps101
  go_upto_region 1 with fail
  obtain ⟨W, hW, hB, hbx, hby, hz⟩ := boxes_nn w hx lx ex false hy ly ey false
  rw [← hW]
  clear hW
  generalize hBe : w.heap.size = B at *
  have HBe := Lib.hid hBe
  clear hBe
  go_cut [] from 13 (fun wx => ∃ X1 X0 i Y1 Y0 j : Nat, NBox wx B X1 X0 (ex - i) false ∧ NBox wx (B + 1) Y1 Y0 (ey - j) false ∧ Below B w wx ∧
    (X1 * 18446744073709551616 + X0 = (hx * 18446744073709551616 + lx) * 2 ^ i ∧ 9223372036854775808 ≤ X1 ∧ X1 < 18446744073709551616 ∧ X0 < 18446744073709551616 ∧ i ≤ 127) ∧
    (Y1 * 18446744073709551616 + Y0 = (hy * 18446744073709551616 + ly) * 2 ^ j ∧ 9223372036854775808 ≤ Y1 ∧ Y1 < 18446744073709551616 ∧ Y0 < 18446744073709551616 ∧ j ≤ 127))
  case first =>
    have k0 := hbx.c0
    have k1 := hbx.c1
    have k2 := hbx.c2
    have k3 := hbx.c3
    have l0 := hby.c0
    have l1 := hby.c1
    have l2 := hby.c2
    have l3 := hby.c3
    go_region_with (first
      | (go_at_call 118; (with_reducible refine (CX.out _).mono ?_); rintro r1 w1 ⟨X1, X0, i, rfl, x1, x2, x3, x4, x5, hw1⟩; have hX := Lib.hid (And.intro x1 (And.intro x2 (And.intro x3 (And.intro x4 x5)))); have ex1 : Below W.heap.size W w1 := (Below.refl _ _).drew.trans hw1; clear x1 x2 x3 x4 x5; have fb := hby.below ex1; have m0 := fb.c0; have m1 := fb.c1; have m2 := fb.c2; have m3 := fb.c3)
      | (go_at_call 118; (with_reducible refine (CY.out _).mono ?_); rintro r2 w2 ⟨Y1, Y0, j, rfl, y1, y2, y3, y4, y5, hw2⟩; have hY := Lib.hid (And.intro y1 (And.intro y2 (And.intro y3 (And.intro y4 y5)))); clear y1 y2 y3 y4 y5; clear m0 m1 m2 m3; have ex2 : Below W.heap.size W w2 := ex1.trans (Below.mono hw2 ex1.size); have fa := hbx.below ex2; have fb2 := hby.below ex2; have a0 := fa.c0; have a1 := fa.c1; have a2 := fa.c2; have a3 := fa.c3; have b0 := fb2.c0; have b1 := fb2.c1; have b2 := fb2.c2; have b3 := fb2.c3; have g0 := fa.f 0; have g1 := fa.f 1; have g2 := fa.f 2; have g3 := fa.f 3; have n0 := fb2.f 0; have n1 := fb2.f 1; have n2 := fb2.f 2; have n3 := fb2.f 3))
    all_goals
      go_wp2
      go_meet
    all_goals
      clear a0 a1 a2 a3 b0 b1 b2 b3 g0 g1 g2 g3 n0 n1 n2 n3 k0 k1 k2 k3 l0 l1 l2 l3
      obtain ⟨Z, hZ, z1, z2, z3⟩ := two_nums fa fb2 (hB.trans (Below.mono ex2 (by omega))) X1 X0 (ex - i) Y1 Y0 (ey - j) false false
      rw [hZ]
      exact ⟨X1, X0, i, Y1, Y0, j, z1, z2, z3, hX.out, hY.out⟩
  case rest =>
    obtain ⟨X1, X0, i, Y1, Y0, j, xb, yb, hb, hX, hY⟩ := hcut
    clear hbx hby hB hz CX CY
    have HX := Lib.hid hX
    have HY := Lib.hid hY
    obtain ⟨x1, x2, x3, x4, x5⟩ := hX
    obtain ⟨y1, y2, y3, y4, y5⟩ := hY
    obtain ⟨e1, he1⟩ : ∃ e1 : Int, ex - i = e1 := ⟨_, rfl⟩
    obtain ⟨f1, hf1⟩ : ∃ f1 : Int, ey - j = f1 := ⟨_, rfl⟩
    rw [he1] at xb
    rw [hf1] at yb
    have be0 : -200000 ≤ e1 := by omega
    have be1 : e1 ≤ 200000 := by omega
    have bf0 : -200000 ≤ f1 := by omega
    have bf1 : f1 ≤ 200000 := by omega
    have nX : Num (X1 * 18446744073709551616 + X0) e1 A m := by rw [x1, ← he1]; exact NX.out.shift i
    have nY : Num (Y1 * 18446744073709551616 + Y0) f1 Bv m := by rw [y1, ← hf1]; exact NY.out.shift j
    have qX : 2 ^ 127 ≤ X1 * 18446744073709551616 + X0 := by clear x1 y1 nX nY; omega
    have qY : 2 ^ 127 ≤ Y1 * 18446744073709551616 + Y0 := by clear x1 y1 nX nY qX; omega
    have vX := shift_even x1 qX BX.out (Nat.le_refl _)
    have vY := shift_even y1 qY (show hy * 18446744073709551616 + ly < 2 ^ 64 from BY.out) (by omega)
    have y00 := low_zero y1 y2 BY.out y4
    have KX : (e1 : Int) = e1 := rfl
    obtain ⟨sw, hsw⟩ : ∃ sw, decide (e1 < f1 ∨ e1 = f1 ∧ X1 < Y1) = sw := ⟨_, rfl⟩
    have HSW := Lib.hid hsw
    have FX := Lib.hid (fun (o : f1 < e1 ∨ f1 = e1 ∧ Y1 * 18446744073709551616 + Y0 ≤ X1 * 18446744073709551616 + X0) => (RsFacts.mk x3 x4 y3 y4 be0 be1 bf0 bf1 qX vX vY nX nY o))
    have FY := Lib.hid (fun (o : e1 < f1 ∨ e1 = f1 ∧ X1 * 18446744073709551616 + X0 ≤ Y1 * 18446744073709551616 + Y0) => (RsFacts.mk y3 y4 x3 x4 bf0 bf1 be0 be1 qY vY vX nY nX o))
    have Y00 := Lib.hid y00
    have BX1 := Lib.hid (And.intro x4 y4)
    clear KX hsw y00 he1 hf1 ex0 ex1 ey0 ey1 NX NY BX BY x1 y1 x5 y5 qX qY vX vY nX nY be0 be1 bf0 bf1 x2 x3 x4 y2 y3 y4
    have c0 := xb.c0
    have c1 := xb.c1
    have c2 := xb.c2
    have c3 := xb.c3
    have d0 := yb.c0
    have d1 := yb.c1
    have d2 := yb.c2
    have d3 := yb.c3
    have g0 := xb.f 0
    have g1 := xb.f 1
    have g2 := xb.f 2
    have g3 := xb.f 3
    have n0 := yb.f 0
    have n1 := yb.f 1
    have n2 := yb.f 2
    have n3 := yb.f 3
    go_upto_region 3 with fail
    go_cut [36] from 37 (fun b wx => b = .bool sw ∧ wx = wc)
    case first =>
      by_cases hlt1 : e1 < f1
      · obtain rfl : true = sw := by rw [← HSW.out]; simp [hlt1]
        go_wp2
        go_meet
        exact ⟨rfl, rfl⟩
      · by_cases heq : e1 = f1
        · subst heq
          have h6 : (e1 == e1) = true := by simp
          by_cases hlt2 : X1 < Y1
          · obtain rfl : true = sw := by rw [← HSW.out]; simp [hlt2]
            have h7 : (X1 : Int) < (Y1 : Int) := by omega
            go_wp2
            go_meet
            exact ⟨rfl, rfl⟩
          · obtain rfl : false = sw := by rw [← HSW.out]; simp [hlt2]
            have h7 : ¬ (X1 : Int) < (Y1 : Int) := by omega
            go_wp2
            go_meet
            exact ⟨rfl, rfl⟩
        · obtain rfl : false = sw := by rw [← HSW.out]; simp [hlt1, heq]
          have h6 : (e1 == f1) = false := beq_eq_false_iff_ne.2 heq
          go_wp2
          go_meet
          exact ⟨rfl, rfl⟩
    case rest =>
      rename_i wc2
      obtain ⟨rfl, rfl⟩ := hcut
      go_upto_if 36 with fail
      go_cut [11] from 13 (fun zs wx => ∃ G1 G0 L1 L0 : Nat, ∃ eG eL : Int, ∃ sG sL : Bool, ∃ AG BL : Nat, zs = .int .u64 ((sgz sG : Nat) : Int) ∧ NBox wx B G1 G0 eG false ∧ NBox wx (B + 1) L1 L0 eL false ∧ Below B w wx ∧ RsFacts G1 G0 L1 L0 eG eL AG BL m ∧
        rsum (sgi sG AG + sgi sL BL) m mode = RS ∧ (sG = sX ∧ sL = sY ∨ sG = sY ∧ sL = sX))
      case first =>
        cases sw with
        | true =>
          go_wp2
          go_meet
          obtain ⟨W2, hW2, gb, lb, b2⟩ := two_nums xb yb hb Y1 Y0 f1 X1 X0 e1 false false
          rw [hW2]
          have ho : e1 < f1 ∨ e1 = f1 ∧ X1 < Y1 := of_decide_eq_true HSW.out
          exact ⟨Y1, Y0, X1, X0, f1, e1, sY, sX, Bv, A, by rw [ZY.out], gb, lb, b2, FY.out (by have := BX1.out; omega), by rw [← HRS.out, Int.add_comm], Or.inr ⟨rfl, rfl⟩⟩
        | false =>
          go_wp2
          go_meet
          have ho : ¬ (e1 < f1 ∨ e1 = f1 ∧ X1 < Y1) := of_decide_eq_false HSW.out
          exact ⟨X1, X0, Y1, Y0, e1, f1, sX, sY, A, Bv, by rw [ZX.out], xb, yb, hb, FX.out (by have := BX1.out; have := Y00.out; omega), HRS.out, Or.inl ⟨rfl, rfl⟩⟩
      case rest =>
        obtain ⟨G1, G0, L1, L0, eG, eL, sG, sL, AG, BL, rfl, gb, lb, b2, RF, hrs, hsl⟩ := hcut
        clear FX FY HSW Y00 BX1 xb yb hb c0 c1 c2 c3 d0 d1 d2 d3 g0 g1 g2 g3 n0 n1 n2 n3 HRS
        obtain ⟨zG, hzG⟩ : ∃ z, sgz sG = z := ⟨_, rfl⟩
        rw [hzG]
        have ZG := Lib.hid hzG
        clear hzG
        obtain ⟨r1, r2, r3, r4, r5, r6, r7, r8, qG, vG, vL, nG, nL, ord⟩ := RF
        have HRS := Lib.hid hrs
        have QG := Lib.hid (And.intro qG (And.intro vG nG))
        have QL := Lib.hid (And.intro vL nL)
        have HSL := Lib.hid hsl
        clear hrs qG vG vL nG nL hsl
        obtain ⟨d, hd⟩ : ∃ d : Nat, eG - eL + 1 = (d : Int) := ⟨(eG - eL + 1).toNat, by omega⟩
        have HD := Lib.hid hd
        have hd1 : 1 ≤ d := by omega
        have hd2 : (d : Int) = eG - eL + 1 := hd.symm
        have hd3 : d ≤ 1000000 := by omega
        have hGL : (L1 * 18446744073709551616 + L0) ≤ (G1 * 18446744073709551616 + G0) * 2 ^ (d - 1) := by
          rcases ord with ho | ⟨ho, ho2⟩
          · have h5 : 2 ^ 1 ≤ 2 ^ (d - 1) := Nat.pow_le_pow_right (by omega) (by omega)
            have h6 := Nat.mul_le_mul_left (G1 * 18446744073709551616 + G0) h5
            rw [show (2 : Nat) ^ 1 = 2 from rfl] at h6
            have := QG.out.1
            omega
          · have h1 : d = 1 := by omega
            rw [h1, show 1 - 1 = 0 by omega, Nat.pow_zero, Nat.mul_one]
            exact ho2
        have hce := ceil_le hd1 hGL QG.out.2.1.2
        have KP := Lib.hid (fun mode => rs_plus sG QG.out.2.2 QL.out.2 hd2 hd1 (by have := QG.out.1; omega) QG.out.2.1.2 mode)
        have KM := Lib.hid (fun mode => rs_minus sG QG.out.2.2 QL.out.2 hd2 hd1 QG.out.1 QG.out.2.1.2 (by omega) QL.out.1.1 hGL mode)
        have CL := Lib.hid (fdown_at L1 L0 d eL false r3 r4 (by omega) (by omega) (by omega) (d : Int) (eG + 1) rfl (by omega) (decide ((L1 * 18446744073709551616 + L0) % 2 ^ d ≠ 0)) (Bool.false_or _))
        have CG := Lib.hid (fdown_at G1 G0 1 eG false r1 r2 (by omega) (by omega) (by omega) 1 (eG + 1) rfl (by omega) false (by rw [Bool.false_or, Nat.pow_one, QG.out.2.1.2]; rfl))
        have hgb : (G1 * 18446744073709551616 + G0) / 2 ^ 1 < 170141183460469231731687303715884105728 := by rw [Nat.pow_one]; omega
        have hlb : (L1 * 18446744073709551616 + L0) / 2 ^ d < 170141183460469231731687303715884105728 := by
          have h5 : 2 ^ 1 ≤ 2 ^ d := Nat.pow_le_pow_right (by omega) hd1
          have h6 : (L1 * 18446744073709551616 + L0) / 2 ^ d ≤ (L1 * 18446744073709551616 + L0) / 2 ^ 1 := Nat.div_le_div_left h5 (by decide)
          rw [Nat.pow_one] at h6
          refine Nat.lt_of_le_of_lt h6 ?_
          clear hGL hce h5 h6 hgb
          omega
        have hgl : 2 ^ 53 ≤ (G1 * 18446744073709551616 + G0) / 2 ^ 1 := by have := QG.out.1; rw [Nat.pow_one]; omega
        have hlt : decide ((L1 * 18446744073709551616 + L0) % 2 ^ d ≠ 0) = true → 2 ^ 53 ≤ (G1 * 18446744073709551616 + G0) / 2 - (L1 * 18446744073709551616 + L0) / 2 ^ d - 1 := by
          intro h
          have h0 : (L1 * 18446744073709551616 + L0) % 2 ^ d ≠ 0 := of_decide_eq_true h
          have h22 : 22 < d := by
            rcases Nat.lt_or_ge 22 d with h7 | h7
            · exact h7
            · exfalso
              apply h0
              obtain ⟨k, hk⟩ := Nat.dvd_of_mod_eq_zero QL.out.1.1
              rw [hk, show 22 = d + (22 - d) by omega, Nat.pow_add, Nat.mul_assoc]
              exact Nat.mul_mod_right _ _
          have h8 : 2 ^ 23 ≤ 2 ^ d := Nat.pow_le_pow_right (by omega) h22
          have h9 : (L1 * 18446744073709551616 + L0) / 2 ^ d ≤ (L1 * 18446744073709551616 + L0) / 2 ^ 23 := Nat.div_le_div_left h8 (by decide)
          have := QG.out.1
          omega
        have c0 := gb.c0
        have c1 := gb.c1
        have c2 := gb.c2
        have c3 := gb.c3
        have d0 := lb.c0
        have d1 := lb.c1
        have d2 := lb.c2
        have d3 := lb.c3
        have n0 := lb.f 0
        have n1 := lb.f 1
        have n2 := lb.f 2
        have n3 := lb.f 3
        have HB2 := Lib.hid (And.intro gb (And.intro lb b2))
        clear gb lb b2 hd2 hGL ord
        have HCE := Lib.hid (And.intro hce (And.intro hgb (And.intro hlb (And.intro hgl hlt))))
        clear hce hgb hlb hgl hlt
        obtain ⟨tl, htl⟩ : ∃ tl, decide ((L1 * 18446744073709551616 + L0) % 2 ^ d ≠ 0) = tl := ⟨_, rfl⟩
        rw [htl] at CL KP
        have HTL := Lib.hid htl
        clear htl
        go_wp2_with fail
        refine (CL.out _).mono ?_
        rintro r w3 ⟨La, Lb, rfl, la1, la2, la3, hE⟩
        have gb := HB2.out.1.below hE
        have lb := HB2.out.2.1.below hE
        have b3 := HB2.out.2.2.trans (Below.mono hE (by have := Below.size HB2.out.2.2; have := HB2.out.2.1.lt; omega))
        clear c0 c1 c2 c3 d0 d1 d2 d3 n0 n1 n2 n3 hE CL HB2
        have n0 := lb.f 0
        have n1 := lb.f 1
        have n2 := lb.f 2
        have n3 := lb.f 3
        have d0 := lb.c0
        have d1 := lb.c1
        have d2 := lb.c2
        have d3 := lb.c3
        go_upto_region 6 with fail
        obtain ⟨W4, hW4, gb4, lb4, b4⟩ : ∃ W4, (((w3.setCell ⟨B + 1, 0, none⟩ (.int .u64 La)).setCell ⟨B + 1, 1, none⟩ (.int .u64 Lb)).setCell ⟨B + 1, 2, none⟩ (.int .i64 (eG + 1))).setCell ⟨B + 1, 3, none⟩ (.bool tl) = W4 ∧ NBox W4 B G1 G0 eG false ∧ NBox W4 (B + 1) La Lb (eG + 1) tl ∧ Below B w W4 :=
          ⟨_, rfl, gb.only (only_nset4 _ _ _ _ _ _) (by omega), lb.stored La Lb (eG + 1) tl, b3.trans ((only_nset4 _ _ _ _ _ _).below (by omega))⟩
        rw [hW4]
        clear hW4 gb lb b3 n0 n1 n2 n3 d0 d1 d2 d3
        have c0 := gb4.c0
        have c1 := gb4.c1
        have c2 := gb4.c2
        have c3 := gb4.c3
        clear hd
        go_wp2_with fail
        refine (CG.out _).mono ?_
        rintro r w5 ⟨Ga, Gb, rfl, ga1, ga2, ga3, hE⟩
        have gb := gb4.below hE
        have lb := lb4.below hE
        have b5 := b4.trans (Below.mono hE (by have := Below.size b4; have := lb4.lt; omega))
        clear c0 c1 c2 c3 hE CG gb4 lb4 b4
        have n0 := gb.f 0
        have n1 := gb.f 1
        have n2 := gb.f 2
        have n3 := gb.f 3
        have d0 := gb.c0
        have d1 := gb.c1
        have d2 := gb.c2
        have d3 := gb.c3
        go_upto_region 7 with fail
        obtain ⟨W6, hW6, gb6, lb6, b6⟩ : ∃ W6, (((w5.setCell ⟨B, 0, none⟩ (.int .u64 Ga)).setCell ⟨B, 1, none⟩ (.int .u64 Gb)).setCell ⟨B, 2, none⟩ (.int .i64 (eG + 1))).setCell ⟨B, 3, none⟩ (.bool false) = W6 ∧ NBox W6 B Ga Gb (eG + 1) false ∧ NBox W6 (B + 1) La Lb (eG + 1) tl ∧ Below B w W6 :=
          ⟨_, rfl, gb.stored Ga Gb (eG + 1) false, lb.only (only_nset4 _ _ _ _ _ _) (by omega), b5.trans ((only_nset4 _ _ _ _ _ _).below (Nat.le_refl _))⟩
        rw [hW6]
        clear hW6 gb lb b5 n0 n1 n2 n3 d0 d1 d2 d3
        have c0 := gb6.c0
        have c1 := gb6.c1
        have c2 := gb6.c2
        have c3 := gb6.c3
        have d0 := lb6.c0
        have d1 := lb6.c1
        have d2 := lb6.c2
        have d3 := lb6.c3
        have HB6 := Lib.hid (And.intro b6 (show B + 1 < W6.heap.size from lb6.lt))
        have GA := Lib.hid (And.intro ga1 (And.intro ga2 ga3))
        have LA := Lib.hid (And.intro la1 (And.intro la2 la3))
        clear ga1 ga2 ga3 la1 la2 la3 gb6 lb6 b6
        have hsgn : (sG = sL ∧ ((zx : Int) == zy) = true) ∨ (sL = !sG ∧ ((zx : Int) == zy) = false) := by
          rw [← ZX.out, ← ZY.out]
          rcases HSL.out with ⟨h1, h2⟩ | ⟨h1, h2⟩ <;> subst h1 <;> subst h2 <;> cases sG <;> cases sL <;> first | (left; exact ⟨rfl, by decide⟩) | (right; exact ⟨rfl, by decide⟩)
        rcases hsgn with ⟨hs, hzz⟩ | ⟨hs, hzz⟩
        · have HS := Lib.hid hs
          clear hs
          have hsum : Ga * 18446744073709551616 + Gb + (La * 18446744073709551616 + Lb) < 340282366920938463463374607431768211456 := by
            rw [GA.out.1, LA.out.1]
            have := HCE.out.2.1
            have := HCE.out.2.2.1
            omega
          have CP := Lib.hid (fplus_any Ga Gb La Lb (eG + 1) (eG + 1) tl GA.out.2.1 GA.out.2.2 LA.out.2.1 LA.out.2.2 hsum)
          clear hsum
          go_wp2_with fail
          refine (CP.out _).mono ?_
          rintro r w7 ⟨H, L, rfl, hv, hH, hL, hE⟩
          have b7 := HB6.out.1.trans (Below.mono hE (by have := HB6.out.2; omega))
          have hbig : 2 ^ 53 ≤ H * 18446744073709551616 + L := by
            rw [hv, GA.out.1]
            exact Nat.le_trans HCE.out.2.2.2.1 (Nat.le_add_right _ _)
          have hR : zG + fla sG (H * 18446744073709551616 + L) (eG + 1) tl mode = RS := by
            have k := KP.out mode
            rw [hv, GA.out.1, LA.out.1, Nat.pow_one, ← ZG.out, show (eG + 1 : Int) = eL + (d : Int) by have := HD.out; omega, k, ← HRS.out]
            rw [← HS.out]
          have CR := Lib.hid (fround_at H L (eG + 1) tl sG mode hH hL (by clear hv hR; omega) (fun _ => hbig) (by omega) (by omega) ZG.out RS hR)
          have HB7 := Lib.hid b7
          have HE7 := Lib.hid (Below.size hE)
          clear hv hbig hR hH hL b7 hE CP
          go_wp2_with fail
          refine (CR.out _).mono ?_
          rintro r w8 ⟨rfl, hE⟩
          go_wp2
          go_ret
          refine ⟨rfl, ?_⟩
          show Below _ _ _
          rw [HBe.out]
          exact HB7.out.trans (Below.mono hE (by have := HB6.out.2; have := HE7.out; omega))
        · have HS := Lib.hid hs
          clear hs
          have hdif : La * 18446744073709551616 + Lb + (if tl then 1 else 0) ≤ Ga * 18446744073709551616 + Gb := by
            rw [GA.out.1, LA.out.1, Nat.pow_one, ← HTL.out]
            have := HCE.out.1
            simpa using this
          have CP := Lib.hid (fminus_any Ga Gb La Lb (eG + 1) (eG + 1) tl GA.out.2.1 GA.out.2.2 LA.out.2.1 LA.out.2.2 hdif)
          clear hdif
          go_wp2_with fail
          refine (CP.out _).mono ?_
          rintro r w7 ⟨H, L, rfl, hv, hH, hL, hE⟩
          have b7 := HB6.out.1.trans (Below.mono hE (by have := HB6.out.2; omega))
          have hv2 : H * 18446744073709551616 + L = (G1 * 18446744073709551616 + G0) / 2 - (L1 * 18446744073709551616 + L0) / 2 ^ d - (if (L1 * 18446744073709551616 + L0) % 2 ^ d ≠ 0 then 1 else 0) := by
            rw [hv, GA.out.1, LA.out.1, Nat.pow_one, ← HTL.out]
            congr 1
            simp
          obtain ⟨k1, k2⟩ := KM.out mode
          rw [← hv2] at k1 k2
          have hbig : tl = true → 2 ^ 53 ≤ H * 18446744073709551616 + L := by
            intro ht
            have h1 := HCE.out.2.2.2.2 (HTL.out.trans ht)
            have h0 : (L1 * 18446744073709551616 + L0) % 2 ^ d ≠ 0 := of_decide_eq_true (HTL.out.trans ht)
            rw [hv2, if_pos h0]
            exact h1
          go_upto_region 10 with fail
          obtain ⟨W8, hW8, hb8, bx8, hz8⟩ := nbox_new w7 H L (eG + 1) tl
          rw [← hW8]
          clear hW8
          have b8 := b7.trans (Below.mono hb8 (by have := HB6.out.2; have := Below.size hE; omega))
          have s8 : B < W8.heap.size := by have := HB6.out.2; have := Below.size hE; have := Below.size hb8; omega
          generalize w7.heap.size = D8 at *
          have HB8 := Lib.hid (And.intro b8 s8)
          have HK := Lib.hid (And.intro k1 (And.intro k2 hbig))
          have HH := Lib.hid (And.intro hH hL)
          clear hv hv2 k1 k2 hbig b7 hE CP b8 s8 hb8 hz8 hH hL c0 c1 c2 c3 d0 d1 d2 d3
          have c0 := bx8.c0
          have c1 := bx8.c1
          have c2 := bx8.c2
          have c3 := bx8.c3
          by_cases hz0 : H * 18446744073709551616 + L = 0
          · have CZ := Lib.hid (fisZero_any H L (eG + 1) tl HH.out.1 HH.out.2 true (decide_eq_true hz0))
            have hR : cancel mode = RS := by
              rw [← HK.out.1 hz0, ← HRS.out, HS.out]
            have HR := Lib.hid hR
            have CC := Lib.hid (fun w => cancelled_any mode w)
            rw [hR] at CC
            clear hz0 hR
            go_wp2_with fail
            refine (CZ.out _).mono ?_
            rintro r w9 ⟨rfl, hE⟩
            go_wp2_with (refine (CC.out _).mono ?_; rintro r w10 ⟨rfl, rfl⟩)
            go_ret
            refine ⟨rfl, ?_⟩
            show Below _ _ _
            rw [HBe.out]
            exact HB8.out.1.trans (Below.mono hE (by have := HB8.out.2; omega))
          · have CZ := Lib.hid (fisZero_any H L (eG + 1) tl HH.out.1 HH.out.2 false (decide_eq_false hz0))
            have hR : zG + fla sG (H * 18446744073709551616 + L) (eG + 1) tl mode = RS := by
              have k := HK.out.2.1 hz0
              have ht := HTL.out
              rw [ht] at k
              rw [← ZG.out, show (eG + 1 : Int) = eL + (d : Int) by have := HD.out; omega, k, ← HRS.out, HS.out]
            have CR := Lib.hid (fround_at H L (eG + 1) tl sG mode HH.out.1 HH.out.2 hz0 HK.out.2.2 (by omega) (by omega) ZG.out RS hR)
            clear hz0 hR
            go_wp2_with fail
            refine (CZ.out _).mono ?_
            rintro r w9 ⟨rfl, hE⟩
            have bx9 := bx8.below hE
            have b9 := HB8.out.1.trans (Below.mono hE (by have := HB8.out.2; omega))
            have HB9 := Lib.hid (And.intro b9 (Below.size hE))
            clear c0 c1 c2 c3 hE b9
            have c0 := bx9.c0
            have c1 := bx9.c1
            have c2 := bx9.c2
            have c3 := bx9.c3
            go_wp2_with fail
            refine (CR.out _).mono ?_
            rintro r w10 ⟨rfl, hE⟩
            go_wp2
            go_ret
            refine ⟨rfl, ?_⟩
            show Below _ _ _
            rw [HBe.out]
            exact HB9.out.1.trans (Below.mono hE (by have := HB8.out.2; have := HB9.out.2; omega))
end Go.Proofs.YtapcecjbmcoliaaGreatDoor
