import Derived.Test.YtapcecjbmcoliaaGreatDoorACauU13
namespace Go.Proofs.YtapcecjbmcoliaaGreatDoor
open Go.RowKit

set_option maxRecDepth 100000 in
set_option maxHeartbeats 1000000 in
theorem fisZero_any (hi lo : Nat) (e : Int) (t : Bool) (hh : hi < 18446744073709551616) (hl : lo < 18446744073709551616) (b : Bool) (hb : decide (hi * 18446744073709551616 + lo = 0) = b) (w : World) :
    Calls Tryz.prog 124 #[.agg #[.int .u64 (hi : Int), .int .u64 (lo : Int), .int .i64 e, .bool t]] w fun r w' => r = .returned (.bool b) ∧ Ext w w' := by
  have h1 := bits_or_u64_nat hi lo hh hl
  have h2 : ((((hi ||| lo : Nat) : Int)) == 0) = b := by
    rw [← hb, Bool.eq_iff_iff, beq_iff_eq, decide_eq_true_iff]
    constructor
    · intro h
      have h3 : hi ||| lo = 0 := by omega
      have h4 := @Nat.left_le_or hi lo
      have h5 := @Nat.right_le_or hi lo
      omega
    · intro h
      have h3 : hi = 0 := by omega
      have h4 : lo = 0 := by omega
      rw [h3, h4]; rfl
  generalize hi ||| lo = v at *
  clear hb
  go_enter Tryz.func124, Tryz.ntmps124
  go_upto_region 1 with fail
  obtain ⟨W, hW, hB, hx, hzz⟩ := nbox_new w hi lo e t
  rw [← hW]
  clear hW
  have HB := Lib.hid (show Ext w W from hB)
  clear hB
  generalize w.heap.size = B at *
  have c0 := hx.c0
  have c1 := hx.c1
  go_wp2
  go_ret
  exact ⟨rfl, HB.out⟩

set_option maxRecDepth 100000 in
set_option maxHeartbeats 2000000 in
theorem fplus_any (hx lx hy ly : Nat) (e f : Int) (t : Bool) (h1 : hx < 18446744073709551616) (h2 : lx < 18446744073709551616) (h3 : hy < 18446744073709551616) (h4 : ly < 18446744073709551616)
    (hs : (hx * 18446744073709551616 + lx) + (hy * 18446744073709551616 + ly) < 340282366920938463463374607431768211456) (w : World) :
    Calls Tryz.prog 122 #[.agg #[.int .u64 (hx : Int), .int .u64 (lx : Int), .int .i64 e, .bool false], .agg #[.int .u64 (hy : Int), .int .u64 (ly : Int), .int .i64 f, .bool t]] w fun r w' => ∃ H L : Nat, r = .returned (.agg #[.int .u64 (H : Int), .int .u64 (L : Int), .int .i64 e, .bool t]) ∧
      H * 18446744073709551616 + L = (hx * 18446744073709551616 + lx) + (hy * 18446744073709551616 + ly) ∧ H < 18446744073709551616 ∧ L < 18446744073709551616 ∧ Ext w w' := by
  have a1 := fun w => Tryz.bits_Add64 lx ly 0 (by omega) w
  have a2 := fun w => Tryz.bits_Add64 hx hy ((lx + ly + 0) / 18446744073709551616) (by omega) w
  have hval : (hx + hy + (lx + ly + 0) / 18446744073709551616) % 18446744073709551616 * 18446744073709551616 + (lx + ly + 0) % 18446744073709551616 = (hx * 18446744073709551616 + lx) + (hy * 18446744073709551616 + ly) := by omega
  have hH : (hx + hy + (lx + ly + 0) / 18446744073709551616) % 18446744073709551616 < 18446744073709551616 := Nat.mod_lt _ (by omega)
  have hL : (lx + ly + 0) % 18446744073709551616 < 18446744073709551616 := Nat.mod_lt _ (by omega)
  have HV := Lib.hid (And.intro hval (And.intro hH hL))
  clear hval hH hL hs
  generalize (hx + hy + (lx + ly + 0) / 18446744073709551616) % 18446744073709551616 = H at *
  generalize (hx + hy + (lx + ly + 0) / 18446744073709551616) / 18446744073709551616 = H2 at *
  generalize (lx + ly + 0) / 18446744073709551616 = C at *
  generalize (lx + ly + 0) % 18446744073709551616 = L at *
  rw [show ((0 : Nat) : Int) = 0 from rfl] at a1
  have A1 := Lib.hid a1
  have A2 := Lib.hid a2
  clear a1 a2
  go_enter Tryz.func122, Tryz.ntmps122
  go_upto_region 1 with fail
  obtain ⟨W, hW, hB, bx, bY, br, hz⟩ := boxes_nnn w hx lx e false hy ly f t 0 0 0 false
  rw [← hW]
  clear hW
  generalize hBe : w.heap.size = B at *
  have HBe := Lib.hid hBe
  clear hBe
  have c0 := bx.c0
  have c1 := bx.c1
  have c2 := bx.c2
  have c3 := bx.c3
  have d0 := bY.c0
  have d1 := bY.c1
  have d2 := bY.c2
  have d3 := bY.c3
  have q0 := br.c0
  have q1 := br.c1
  have q2 := br.c2
  have q3 := br.c3
  have p0 := br.f 0
  have p1 := br.f 1
  have p2 := br.f 2
  have p3 := br.f 3
  have z := br.stored H L e t
  have z0 := z.c0
  have z1 := z.c1
  have z2 := z.c2
  have z3 := z.c3
  have B1 := Lib.hid (hB.trans ((only_nset4 W (B + 1 + 1) (.int .u64 H) (.int .u64 L) (.int .i64 e) (.bool t)).below (B := B) (by omega)))
  clear z bx bY br hB hz
  go_wp2_with (first | simp only [A1.out] | simp only [A2.out])
  refine bodyPost_ret (v := .agg #[.int .u64 H, .int .u64 L, .int .i64 e, .bool t]) (by simp [results, Tryz.results122, go_sem, z0, z1, z2, z3]) rfl ⟨H, L, rfl, HV.out.1, HV.out.2.1, HV.out.2.2, ?_⟩
  show Below _ _ _
  rw [HBe.out]
  exact B1.out

set_option maxRecDepth 100000 in
set_option maxHeartbeats 2000000 in
theorem fminus_any (hx lx hy ly : Nat) (e f : Int) (t : Bool) (h1 : hx < 18446744073709551616) (h2 : lx < 18446744073709551616) (h3 : hy < 18446744073709551616) (h4 : ly < 18446744073709551616)
    (hs : (hy * 18446744073709551616 + ly) + (if t then 1 else 0) ≤ hx * 18446744073709551616 + lx) (w : World) :
    Calls Tryz.prog 123 #[.agg #[.int .u64 (hx : Int), .int .u64 (lx : Int), .int .i64 e, .bool false], .agg #[.int .u64 (hy : Int), .int .u64 (ly : Int), .int .i64 f, .bool t]] w fun r w' => ∃ H L : Nat, r = .returned (.agg #[.int .u64 (H : Int), .int .u64 (L : Int), .int .i64 e, .bool t]) ∧
      H * 18446744073709551616 + L = (hx * 18446744073709551616 + lx) - (hy * 18446744073709551616 + ly) - (if t then 1 else 0) ∧ H < 18446744073709551616 ∧ L < 18446744073709551616 ∧ Ext w w' := by
  obtain ⟨b, hb⟩ : ∃ b, (if t then 1 else 0 : Nat) = b := ⟨_, rfl⟩
  have hb1 : b ≤ 1 := by rw [← hb]; split <;> omega
  rw [hb] at hs ⊢
  have a1 := fun w => Tryz.bits_Sub64 lx ly b hb1 w
  obtain ⟨c, hc⟩ : ∃ c, (if lx < ly + b then 1 else 0 : Nat) = c := ⟨_, rfl⟩
  have hc1 : c ≤ 1 := by rw [← hc]; split <;> omega
  have a2 := fun w => Tryz.bits_Sub64 hx hy c hc1 w
  obtain ⟨c2, hc2⟩ : ∃ c2, (if hx < hy + c then 1 else 0 : Nat) = c2 := ⟨_, rfl⟩
  rw [hc] at a1
  rw [hc2] at a2
  have hval : (hx + 18446744073709551616 - hy - c) % 18446744073709551616 * 18446744073709551616 + (lx + 18446744073709551616 - ly - b) % 18446744073709551616 = (hx * 18446744073709551616 + lx) - (hy * 18446744073709551616 + ly) - b := by
    by_cases h : lx < ly + b
    · rw [if_pos h] at hc; omega
    · rw [if_neg h] at hc; omega
  have hH : (hx + 18446744073709551616 - hy - c) % 18446744073709551616 < 18446744073709551616 := Nat.mod_lt _ (by omega)
  have hL : (lx + 18446744073709551616 - ly - b) % 18446744073709551616 < 18446744073709551616 := Nat.mod_lt _ (by omega)
  have HV := Lib.hid (And.intro hval (And.intro hH hL))
  clear hval hH hL hs hc hc2
  generalize (hx + 18446744073709551616 - hy - c) % 18446744073709551616 = H at *
  generalize (lx + 18446744073709551616 - ly - b) % 18446744073709551616 = L at *
  have A2 := Lib.hid a2
  clear a2
  cases t with
  | false =>
    obtain rfl : 0 = b := by rw [← hb]; rfl
    rw [show ((0 : Nat) : Int) = 0 from rfl] at a1
    have A1 := Lib.hid a1
    clear a1 hb hb1 hc1
    go_enter Tryz.func123, Tryz.ntmps123
    go_upto_region 1 with fail
    obtain ⟨W, hW, hB, bx, bY, br, hz⟩ := boxes_nnn w hx lx e false hy ly f false 0 0 0 false
    rw [← hW]
    clear hW
    generalize hBe : w.heap.size = B at *
    have HBe := Lib.hid hBe
    clear hBe
    have c0 := bx.c0
    have c1 := bx.c1
    have c2 := bx.c2
    have c3 := bx.c3
    have d0 := bY.c0
    have d1 := bY.c1
    have d2 := bY.c2
    have d3 := bY.c3
    have q0 := br.c0
    have q1 := br.c1
    have q2 := br.c2
    have q3 := br.c3
    have p0 := br.f 0
    have p1 := br.f 1
    have p2 := br.f 2
    have p3 := br.f 3
    have z := br.stored H L e false
    have z0 := z.c0
    have z1 := z.c1
    have z2 := z.c2
    have z3 := z.c3
    have B1 := Lib.hid (hB.trans ((only_nset4 W (B + 1 + 1) (.int .u64 H) (.int .u64 L) (.int .i64 e) (.bool false)).below (B := B) (by omega)))
    clear z bx bY br hB hz
    go_wp2_with (first | simp only [A1.out] | simp only [A2.out])
    refine bodyPost_ret (v := .agg #[.int .u64 H, .int .u64 L, .int .i64 e, .bool false]) (by simp [results, Tryz.results123, go_sem, z0, z1, z2, z3]) rfl ⟨H, L, rfl, HV.out.1, HV.out.2.1, HV.out.2.2, ?_⟩
    show Below _ _ _
    rw [HBe.out]
    exact B1.out
  | true =>
    obtain rfl : 1 = b := by rw [← hb]; rfl
    rw [show ((1 : Nat) : Int) = 1 from rfl] at a1
    have A1 := Lib.hid a1
    clear a1 hb hb1 hc1
    go_enter Tryz.func123, Tryz.ntmps123
    go_upto_region 1 with fail
    obtain ⟨W, hW, hB, bx, bY, br, hz⟩ := boxes_nnn w hx lx e false hy ly f true 0 0 0 false
    rw [← hW]
    clear hW
    generalize hBe : w.heap.size = B at *
    have HBe := Lib.hid hBe
    clear hBe
    have c0 := bx.c0
    have c1 := bx.c1
    have c2 := bx.c2
    have c3 := bx.c3
    have d0 := bY.c0
    have d1 := bY.c1
    have d2 := bY.c2
    have d3 := bY.c3
    have q0 := br.c0
    have q1 := br.c1
    have q2 := br.c2
    have q3 := br.c3
    have p0 := br.f 0
    have p1 := br.f 1
    have p2 := br.f 2
    have p3 := br.f 3
    have z := br.stored H L e true
    have z0 := z.c0
    have z1 := z.c1
    have z2 := z.c2
    have z3 := z.c3
    have B1 := Lib.hid (hB.trans ((only_nset4 W (B + 1 + 1) (.int .u64 H) (.int .u64 L) (.int .i64 e) (.bool true)).below (B := B) (by omega)))
    clear z bx bY br hB hz
    go_wp2_with (first | simp only [A1.out] | simp only [A2.out])
    refine bodyPost_ret (v := .agg #[.int .u64 H, .int .u64 L, .int .i64 e, .bool true]) (by simp [results, Tryz.results123, go_sem, z0, z1, z2, z3]) rfl ⟨H, L, rfl, HV.out.1, HV.out.2.1, HV.out.2.2, ?_⟩
    show Below _ _ _
    rw [HBe.out]
    exact B1.out

set_option maxRecDepth 100000 in
set_option maxHeartbeats 2000000 in
theorem fproduct_any (a b : Nat) (ha : a < 18446744073709551616) (hb : b < 18446744073709551616) (w : World) :
    Calls Tryz.prog 100 #[.int .u64 (a : Int), .int .u64 (b : Int)] w fun r w' => ∃ H L : Nat, r = .returned (.agg #[.int .u64 (H : Int), .int .u64 (L : Int), .int .i64 (-1074 + (fsh a : Int) + (-1074 + (fsh b : Int))), .bool false]) ∧
      H * 18446744073709551616 + L = sig a * sig b ∧ H < 18446744073709551616 ∧ L < 18446744073709551616 ∧ Ext w w' := by
  have hsa := sig_lt a
  have hsb := sig_lt b
  have hfa := fsh_lt a
  have hfb := fsh_lt b
  have hp : sig a * sig b < 340282366920938463463374607431768211456 := by
    have := Nat.mul_lt_mul'' hsa hsb
    exact Nat.lt_of_lt_of_le this (by decide)
  have hv : sig a * sig b / 18446744073709551616 * 18446744073709551616 + sig a * sig b % 18446744073709551616 = sig a * sig b := by omega
  have hH : sig a * sig b / 18446744073709551616 < 18446744073709551616 := by omega
  have hL : sig a * sig b % 18446744073709551616 < 18446744073709551616 := Nat.mod_lt _ (by omega)
  have HV := Lib.hid (And.intro hv (And.intro hH hL))
  have SA := Lib.hid (fun w => fsplit_any a ha w)
  have SBB := Lib.hid (fun w => fsplit_any b hb w)
  have MU := Lib.hid (fun w => Tryz.bits_Mul64 (sig a) (sig b) (by omega) (by omega) w)
  clear hv hH hL hp ha hb hsa hsb
  generalize sig a * sig b / 18446744073709551616 = H at *
  generalize sig a * sig b % 18446744073709551616 = L at *
  generalize sig a = x at *
  generalize sig b = y at *
  obtain ⟨e, he⟩ : ∃ e : Int, -1074 + (fsh a : Int) = e := ⟨_, rfl⟩
  obtain ⟨f, hf⟩ : ∃ f : Int, -1074 + (fsh b : Int) = f := ⟨_, rfl⟩
  rw [he] at SA ⊢
  rw [hf] at SBB ⊢
  have e0 : -1074 ≤ e := by omega
  have e1 : e ≤ 1000 := by omega
  have f0 : -1074 ≤ f := by omega
  have f1 : f ≤ 1000 := by omega
  clear he hf hfa hfb
  go_enter Tryz.func100, Tryz.ntmps100
  go_upto_region 1 with fail
  obtain ⟨W, hW, hB, hx, hzz⟩ := nbox_new w 0 0 0 false
  rw [← hW]
  clear hW
  generalize hBe : w.heap.size = B at *
  have HBe := Lib.hid hBe
  clear hBe
  go_wp2_with fail
  refine (SA.out _).mono ?_
  rintro r w1 ⟨rfl, hE⟩
  have x1 := hx.below hE
  have b1 : Below B w w1 := hB.trans (Below.mono hE (by omega))
  have hw1 : B + 1 ≤ w1.heap.size := by have := Below.size hE; omega
  clear hx hB hE hzz
  go_wp2_with fail
  refine (SBB.out _).mono ?_
  rintro r w2 ⟨rfl, hE⟩
  have x2 := x1.below hE
  have b2 : Below B w w2 := b1.trans (Below.mono hE (by omega))
  have hw2 : B + 1 ≤ w2.heap.size := by have := Below.size hE; omega
  clear x1 b1 hE hw1
  go_upto_region 2 with fail
  obtain ⟨W3, hW, hB, hx, hy, hzz⟩ := boxes_nn w2 0 x e false 0 y f false
  rw [← hW]
  clear hW
  have x3 := x2.below hB
  have b3 : Below B w W3 := b2.trans (Below.mono hB (by omega))
  generalize w2.heap.size = D at *
  have c0 := hx.c0
  have c1 := hx.c1
  have c2 := hx.c2
  have c3 := hx.c3
  have d0 := hy.c0
  have d1 := hy.c1
  have d2 := hy.c2
  have d3 := hy.c3
  have q0 := x3.c0
  have q1 := x3.c1
  have q2 := x3.c2
  have q3 := x3.c3
  have p0 := x3.f 0
  have p1 := x3.f 1
  have p2 := x3.f 2
  have p3 := x3.f 3
  have z := x3.stored H L (e + f) false
  have z0 := z.c0
  have z1 := z.c1
  have z2 := z.c2
  have z3 := z.c3
  have B1 := Lib.hid (b3.trans ((only_nset4 W3 B (.int .u64 H) (.int .u64 L) (.int .i64 (e + f)) (.bool false)).below (B := B) (by omega)))
  clear z x3 x2 b2 b3 hB hx hy
  go_wp2_with (refine (MU.out _).mono ?_; rintro r w4 ⟨rfl, rfl⟩)
  refine bodyPost_ret (v := .agg #[.int .u64 H, .int .u64 L, .int .i64 (e + f), .bool false]) (by simp [results, Tryz.results100, go_sem, z0, z1, z2, z3]) rfl ⟨H, L, rfl, HV.out.1, HV.out.2.1, HV.out.2.2, ?_⟩
  show Below _ _ _
  rw [HBe.out]
  exact B1.out
end Go.Proofs.YtapcecjbmcoliaaGreatDoor
