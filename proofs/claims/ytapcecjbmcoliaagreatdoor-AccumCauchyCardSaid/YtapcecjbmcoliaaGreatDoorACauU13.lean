import Derived.Test.YtapcecjbmcoliaaGreatDoorACauU12
import Derived.Test.YtapcecjbmcoliaaGreatDoorACauU8
namespace Go.Proofs.YtapcecjbmcoliaaGreatDoor
open Go.RowKit

theorem fneg_sgz (s : Bool) : fneg (sgz s) = s := by unfold fneg sgz; cases s <;> decide

theorem upc_cases (s : Bool) (mode : Int) (kept rest : Nat) : mode = 1 ∧ upc s mode kept rest = (s && decide (rest ≠ 0)) ∨ mode ≠ 1 ∧ mode = 2 ∧ upc s mode kept rest = (!s && decide (rest ≠ 0)) ∨ mode ≠ 1 ∧ mode ≠ 2 ∧ mode = 3 ∧ upc s mode kept rest = false ∨
    mode ≠ 1 ∧ mode ≠ 2 ∧ mode ≠ 3 ∧ upc s mode kept rest = (decide (9223372036854775808 < rest) || decide (rest = 9223372036854775808) && decide (kept % 2 = 1)) := by
  unfold upc
  by_cases h1 : mode = 1
  · left; exact ⟨h1, if_pos h1⟩
  · right
    by_cases h2 : mode = 2
    · left; exact ⟨h1, h2, by rw [if_neg h1, if_pos h2]⟩
    · right
      by_cases h3 : mode = 3
      · left; exact ⟨h1, h2, h3, by rw [if_neg h1, if_neg h2, if_pos h3]⟩
      · right; exact ⟨h1, h2, h3, by rw [if_neg h1, if_neg h2, if_neg h3]⟩

set_option maxRecDepth 100000 in
set_option maxHeartbeats 2000000 in
theorem roundedUp_any (kept rest : Nat) (s : Bool) (mode : Int) (w : World) :
    Calls Tryz.prog 119 #[.int .u64 (kept : Int), .int .u64 (rest : Int), .int .u64 ((sgz s : Nat) : Int), .int .i64 mode] w fun e w' => e = .returned (.bool (upc s mode kept rest)) ∧ w = w' := by
  have hc := upc_cases s mode kept rest
  have HN := Lib.hid (fun w => isNegative_any (sgz s) (by have := sgz_le s; omega) w)
  rw [fneg_sgz] at HN
  generalize upc s mode kept rest = u at *
  generalize sgz s = z at *
  rcases hc with ⟨rfl, hu⟩ | ⟨h1, rfl, hu⟩ | ⟨h1, h2, rfl, hu⟩ | ⟨h1, h2, h3, hu⟩
  · cases s with
    | false =>
      obtain rfl : u = false := by rw [hu]; rfl
      clear hu
      go_enter Tryz.func119, Tryz.ntmps119
      go_wp2_with (refine (HN.out _).mono ?_; rintro e w' ⟨rfl, rfl⟩)
      go_ret
      exact ⟨rfl, rfl⟩
    | true =>
      obtain ⟨b, hb⟩ : ∃ b, ((rest : Int) != 0) = b := ⟨_, rfl⟩
      obtain rfl : u = b := by
        rw [hu, ← hb]
        by_cases h : rest = 0 <;> simp [h]
      clear hu
      go_enter Tryz.func119, Tryz.ntmps119
      go_wp2_with (refine (HN.out _).mono ?_; rintro e w' ⟨rfl, rfl⟩)
      go_ret
      exact ⟨rfl, rfl⟩
  · cases s with
    | true =>
      obtain rfl : u = false := by rw [hu]; rfl
      clear hu h1
      go_enter Tryz.func119, Tryz.ntmps119
      go_wp2_with (refine (HN.out _).mono ?_; rintro e w' ⟨rfl, rfl⟩)
      go_ret
      exact ⟨rfl, rfl⟩
    | false =>
      obtain ⟨b, hb⟩ : ∃ b, ((rest : Int) != 0) = b := ⟨_, rfl⟩
      obtain rfl : u = b := by
        rw [hu, ← hb]
        by_cases h : rest = 0 <;> simp [h]
      clear hu h1
      go_enter Tryz.func119, Tryz.ntmps119
      go_wp2_with (refine (HN.out _).mono ?_; rintro e w' ⟨rfl, rfl⟩)
      go_ret
      exact ⟨rfl, rfl⟩
  · subst hu
    clear h1 h2
    go_enter Tryz.func119, Tryz.ntmps119
    go_wp2
    go_ret
    exact ⟨rfl, rfl⟩
  · have m1 : (mode == 1) = false := beq_eq_false_iff_ne.2 h1
    have m2 : (mode == 2) = false := beq_eq_false_iff_ne.2 h2
    have m3 : (mode == 3) = false := beq_eq_false_iff_ne.2 h3
    clear h1 h2 h3
    by_cases hr : 9223372036854775808 < rest
    · obtain rfl : u = true := by rw [hu, decide_eq_true hr]; rfl
      clear hu
      have hr : (9223372036854775808 : Int) < (rest : Int) := by omega
      go_enter Tryz.func119, Tryz.ntmps119
      go_wp2
      go_ret
      exact ⟨rfl, rfl⟩
    · rw [decide_eq_false hr, Bool.false_or] at hu
      have hr : ¬ (9223372036854775808 : Int) < (rest : Int) := by omega
      by_cases he : rest = 9223372036854775808
      · have hk : ((kept : Int) % 2 == 1) = u := by
          rw [hu, decide_eq_true he, Bool.true_and, Bool.eq_iff_iff, beq_iff_eq, decide_eq_true_iff]
          omega
        have he : ((rest : Int) == 9223372036854775808) = true := by rw [beq_iff_eq]; omega
        clear hu
        go_enter Tryz.func119, Tryz.ntmps119
        go_wp2
        go_ret
        exact ⟨rfl, rfl⟩
      · obtain rfl : u = false := by rw [hu, decide_eq_false he]; rfl
        have he : ((rest : Int) == 9223372036854775808) = false := by rw [beq_eq_false_iff_ne]; omega
        clear hu
        go_enter Tryz.func119, Tryz.ntmps119
        go_wp2
        go_ret
        exact ⟨rfl, rfl⟩
theorem roundedUp_at {kI rI : Int} {kept rest : Nat} (hk : kI = (kept : Int)) (hr : rI = (rest : Int)) (s : Bool) (mode : Int) {z : Nat} (hz : sgz s = z) (u : Bool) (hu : upc s mode kept rest = u) (w : World) :
    Calls Tryz.prog 119 #[.int .u64 kI, .int .u64 rI, .int .u64 (z : Int), .int .i64 mode] w fun e w' => e = .returned (.bool u) ∧ w = w' := by
  rw [hk, hr, ← hz, ← hu]
  exact roundedUp_any kept rest s mode w

theorem NBox.stored0 {w : World} {g : Nat} {hi lo e : Int} {t : Bool} (h : NBox w g hi lo e t) (hi' : Int) : NBox (w.setCell ⟨g, 0, none⟩ (.int .u64 hi')) g hi' lo e t := by
  unfold NBox at h ⊢
  simp [World.setCell, Array.getElem?_modify, h]

set_option maxRecDepth 100000 in
set_option maxHeartbeats 8000000 in
theorem fround_any (hi lo : Nat) (e : Int) (t : Bool) (s : Bool) (mode : Int) (hh : hi < 18446744073709551616) (hl : lo < 18446744073709551616) (h0 : hi * 18446744073709551616 + lo ≠ 0) (ht : t = true → 2 ^ 53 ≤ hi * 18446744073709551616 + lo) (he0 : -1000000000 ≤ e) (he1 : e ≤ 1000000000) (w : World) :
    Calls Tryz.prog 95 #[.agg #[.int .u64 (hi : Int), .int .u64 (lo : Int), .int .i64 e, .bool t], .int .u64 ((sgz s : Nat) : Int), .int .i64 mode] w fun r w' => r = .returned (.int .u64 ((sgz s + fla s (hi * 18446744073709551616 + lo) e t mode : Nat) : Int)) ∧ Ext w w' := by
  have CN := Lib.hid (fnormal_any hi lo e t hh hl h0 (by omega) (by omega))
  have hsh := fun k => fla_shift s h0 e t mode k ht
  obtain ⟨FL, hFL⟩ : ∃ FL, fla s (hi * 18446744073709551616 + lo) e t mode = FL := ⟨_, rfl⟩
  rw [hFL] at hsh
  rw [hFL]
  have HSH := Lib.hid hsh
  clear hsh hFL
  have hs0 := sgz_le s
  obtain ⟨z, hz⟩ : ∃ z, sgz s = z := ⟨_, rfl⟩
  have HZ := Lib.hid hz
  have hor : ∀ a : Nat, a < 9223372036854775808 → bits BinOp.or IntKind.u64 (z : Int) (a : Int) = ((z + a : Nat) : Int) := fun a h => by rw [← HZ.out]; exact or_sign h
  have HOR := Lib.hid hor
  rw [hz]
  clear hz hor hh hl h0 ht hs0
  go_enter Tryz.func95, Tryz.ntmps95
  go_upto_region 1 with fail
  obtain ⟨W, hW, hB, hx, hzz⟩ := nbox_new w hi lo e t
  rw [← hW]
  clear hW
  generalize hBe : w.heap.size = B at *
  have HBe := Lib.hid hBe
  clear hBe
  have c0 := hx.c0
  have c1 := hx.c1
  have c2 := hx.c2
  have c3 := hx.c3
  go_wp2_with fail
  refine (CN.out _).mono ?_
  rintro r w1 ⟨H, L, k, rfl, hN, hH0, hH1, hL, hk, hE⟩
  clear c0 c1 c2 c3 CN
  have x1 := hx.below hE
  have b1 : Below B w w1 := hB.trans (Below.mono hE (by omega))
  have g0 := x1.f 0
  have g1 := x1.f 1
  have g2 := x1.f 2
  have g3 := x1.f 3
  have c0 := x1.c0
  have c1 := x1.c1
  have c2 := x1.c2
  have c3 := x1.c3
  have hfl := HSH.out k
  rw [← hN] at hfl
  obtain ⟨e2, he2⟩ : ∃ e2 : Int, e - k = e2 := ⟨_, rfl⟩
  rw [he2] at hfl
  have e20 : -1000000127 ≤ e2 := by omega
  have e21 : e2 ≤ 1000000000 := by omega
  have HFLA := Lib.hid hfl
  clear hfl HSH hx hE hN hk hB hzz
  go_upto_region 2 with fail
  clear he2
  obtain ⟨W2, hW2, x2, b2⟩ : ∃ W2, (((w1.setCell ⟨B, 0, none⟩ (.int .u64 H)).setCell ⟨B, 1, none⟩ (.int .u64 L)).setCell ⟨B, 2, none⟩ (.int .i64 e2)).setCell ⟨B, 3, none⟩ (.bool t) = W2 ∧ NBox W2 B H L e2 t ∧ Below B w W2 := ⟨_, rfl, x1.stored H L e2 t, b1.trans ((only_nset4 _ _ _ _ _ _).below (Nat.le_refl _))⟩
  rw [hW2]
  clear hW2 x1 b1 c0 c1 c2 c3 g0 g1 g2 g3
  have c0 := x2.c0
  have c1 := x2.c1
  have c2 := x2.c2
  have c3 := x2.c3
  have g0 := x2.f 0
  have g1 := x2.f 1
  have g2 := x2.f 2
  have g3 := x2.f 3
  obtain ⟨top, htop⟩ : ∃ top : Int, e2 + 128 - 1 = top := ⟨_, rfl⟩
  have HFG := Lib.hid (fun h : (1023 : Int) < e2 + 127 => fla_great s t mode hH0 hH1 hL h)
  have HFL := Lib.hid (fun h : (64 : Int) < max (e2 + 75) (-1074) - e2 - 64 => fla_least s t mode hH0 hH1 hL h)
  have HFM := Lib.hid (fun (d : Nat) (h1 : e2 + 127 ≤ 1023) (h2 : (d : Int) = max (e2 + 75) (-1074) - e2 - 64) (h3 : d ≤ 64) => fla_main s t mode hH0 hH1 hL h1 h2 h3)
  have hst : ∀ b, stick H b < 18446744073709551616 := fun b => by unfold stick; split <;> omega
  obtain ⟨X, hX⟩ : ∃ X, stick H (t || decide (L ≠ 0)) = X := ⟨_, rfl⟩
  have hX1 := hst (t || decide (L ≠ 0))
  rw [hX] at HFM hX1
  have hone := or_one hH1
  clear hst
  rw [HFLA.out] at HFG HFL HFM
  clear HFLA
  cases t with
  | true =>
    obtain rfl : H / 2 * 2 + 1 = X := by rw [← hX]; rfl
    have HX := Lib.hid hX
    clear hX
    generalize H / 2 * 2 + 1 = X at *
    go_upto_region 4 with fail
    have x3 := x2.stored0 X
    have b3 := b2.trans ((only_set1 W2 B 0 (.int .u64 X)).below (Nat.le_refl _))
    generalize W2.setCell ⟨B, 0, none⟩ (.int .u64 X) = W3 at *
    clear x2 b2 c0 c1 c2 c3 g0 g1 g2 g3

    have c0 := x3.c0
    have c1 := x3.c1
    have c2 := x3.c2
    have c3 := x3.c3
    have g0 := x3.f 0
    have B3 := Lib.hid b3
    clear x3 b3
    by_cases hgt : 1023 < top
    · have hmx : max (971 : Int) (-1074) = 971 := by decide
      have HG := Lib.hid (HFG.out (by omega))
      obtain ⟨u, hu⟩ : ∃ u, upc s mode 9007199254740991 18437736874454810624 = u := ⟨_, rfl⟩
      rw [hu] at HG
      have HR := Lib.hid (fun w => roundedUp_at (kI := 9007199254740991) (rI := 18437736874454810624) (by rfl) (by rfl) s mode HZ.out u hu w)
      have ho1 := HOR.out 9218868437227405311 (by omega)
      have ho2 := HOR.out 9218868437227405312 (by omega)
      rw [show ((9218868437227405311 : Nat) : Int) = 9218868437227405311 from rfl] at ho1
      rw [show ((9218868437227405312 : Nat) : Int) = 9218868437227405312 from rfl] at ho2
      clear hu HFG HFL HFM HOR HX
      cases u with
      | true =>
        go_upto_region 11 with fail
        go_quiet (fail)
        go_wp2_with (refine (HR.out _).mono ?_; rintro r2 w2 ⟨rfl, rfl⟩)
        go_ret
        refine ⟨ret_int ?_, ?_⟩
        · rw [HG.out]; rfl
        · show Below _ _ _
          rw [HBe.out]
          repeat (first | exact B3.out | with_reducible refine Below.drew ?_ | with_reducible refine below_drewN ?_ _ | with_reducible refine Below.setCell ?_ (by simp) _)
      | false =>
        go_upto_region 11 with fail
        go_quiet (fail)
        go_wp2_with (refine (HR.out _).mono ?_; rintro r2 w2 ⟨rfl, rfl⟩)
        go_ret
        refine ⟨ret_int ?_, ?_⟩
        · rw [HG.out]; rfl
        · show Below _ _ _
          rw [HBe.out]
          repeat (first | exact B3.out | with_reducible refine Below.drew ?_ | with_reducible refine below_drewN ?_ _ | with_reducible refine Below.setCell ?_ (by simp) _)
    · obtain ⟨pl, hpl⟩ : ∃ pl : Int, max (top - 52) (-1074) = pl := ⟨_, rfl⟩
      have hpl0 : -1074 ≤ pl := by omega
      have hpl1 : pl ≤ 971 := by omega
      have hpm : max (e2 + 75) (-1074) = pl := by omega
      obtain ⟨dr, hdr⟩ : ∃ dr : Int, pl - (top - 64 + 1) = dr := ⟨_, rfl⟩
      obtain ⟨q, hq⟩ : ∃ q : Nat, pl - -1074 = (q : Int) := ⟨(pl + 1074).toNat, by omega⟩
      have hq1 : q ≤ 2045 := by omega
      have hdm : max (e2 + 75) (-1074) - e2 - 64 = dr := by omega
      have hqm : (max (e2 + 75) (-1074) + 1074).toNat = q := by omega
      have hgt : top ≤ 1023 := by omega
      by_cases hd : 64 < dr
      · obtain rfl : q = 0 := by omega
        have HG := Lib.hid (HFL.out (by omega))
        obtain ⟨u, hu⟩ : ∃ u, upc s mode 0 1 = u := ⟨_, rfl⟩
        rw [hu] at HG
        have HR := Lib.hid (fun w => roundedUp_at (kI := 0) (rI := 1) (by rfl) (by rfl) s mode HZ.out u hu w)
        have ho1 := HOR.out 0 (by omega)
        have ho2 := HOR.out 1 (by omega)
        rw [show ((0 : Nat) : Int) = 0 from rfl] at ho1 hq
        rw [show ((1 : Nat) : Int) = 1 from rfl] at ho2
        clear hu HFG HFL HFM HOR HX hpm hdm hqm hq1
        cases u with
        | true =>
          go_upto_region 11 with fail
          go_quiet (fail)
          go_wp2_with (refine (HR.out _).mono ?_; rintro r2 w2 ⟨rfl, rfl⟩)
          go_ret
          refine ⟨ret_int ?_, ?_⟩
          · rw [HG.out]; rfl
          · show Below _ _ _
            rw [HBe.out]
            repeat (first | exact B3.out | with_reducible refine Below.drew ?_ | with_reducible refine below_drewN ?_ _ | with_reducible refine Below.setCell ?_ (by simp) _)
        | false =>
          go_upto_region 11 with fail
          go_quiet (fail)
          go_wp2_with (refine (HR.out _).mono ?_; rintro r2 w2 ⟨rfl, rfl⟩)
          go_ret
          refine ⟨ret_int ?_, ?_⟩
          · rw [HG.out]; rfl
          · show Below _ _ _
            rw [HBe.out]
            repeat (first | exact B3.out | with_reducible refine Below.drew ?_ | with_reducible refine below_drewN ?_ _ | with_reducible refine Below.setCell ?_ (by simp) _)
      · obtain ⟨d, hdd⟩ : ∃ d : Nat, dr = (d : Int) := ⟨dr.toNat, by omega⟩
        have hd11 : 11 ≤ d ∧ d ≤ 64 := by omega
        have hG := HFM.out d (by omega) (by omega) hd11.2
        rw [hqm] at hG
        have hkb : X / 2 ^ d ≤ 9007199254740992 := by
          have h1 : 2 ^ 11 ≤ 2 ^ d := Nat.pow_le_pow_right (by omega) hd11.1
          have h2 : X / 2 ^ d ≤ X / 2 ^ 11 := Nat.div_le_div_left h1 (by decide)
          omega
        have hs1 : IntKind.u64.wrap ((X : Int) * 2 ^ (64 - d)) = ((X * 2 ^ (64 - d) % 18446744073709551616 : Nat) : Int) := by rw [IntKind.wrap_u64]; exact (cast_modpow X (64 - d) 18446744073709551616).symm
        have hs2 : (X : Int) / 2 ^ d = ((X / 2 ^ d : Nat) : Int) := (cast_divpow _ _).symm
        obtain ⟨u, hu⟩ : ∃ u, upc s mode (X / 2 ^ d) (X * 2 ^ (64 - d) % 18446744073709551616) = u := ⟨_, rfl⟩
        rw [hu] at hG
        generalize X / 2 ^ d = kp at *
        generalize X * 2 ^ (64 - d) % 18446744073709551616 = rs at *
        have HR := Lib.hid (fun w => roundedUp_at (kI := (kp : Int)) (rI := (rs : Int)) rfl rfl s mode HZ.out u hu w)
        have HG := Lib.hid hG
        have ho1 := HOR.out (q * 4503599627370496 + kp) (by omega)
        have ho2 := HOR.out (q * 4503599627370496 + (kp + 1)) (by omega)
        obtain ⟨a1, ha1⟩ : ∃ a1 : Int, ((q * 4503599627370496 + kp : Nat) : Int) = a1 := ⟨_, rfl⟩
        obtain ⟨a2, ha2⟩ : ∃ a2 : Int, ((q * 4503599627370496 + (kp + 1) : Nat) : Int) = a2 := ⟨_, rfl⟩
        rw [ha1] at ho1
        rw [ha2] at ho2
        have A1 := Lib.hid ha1
        have A2 := Lib.hid ha2
        have k1 : (q : Int) * 4503599627370496 + (kp : Int) = a1 := by omega
        have k2 : (q : Int) * 4503599627370496 + ((kp : Int) + 1) = a2 := by omega
        have k3 : (0 : Int) ≤ (d : Int) := by omega
        have k4 : (d : Int) ≤ 64 := by omega
        have k5 : (0 : Int) ≤ 64 - (d : Int) := by omega
        have k6 : (kp : Int) + 1 < 18446744073709551616 := by omega
        have k7 : (q : Int) * 4503599627370496 < 18446744073709551616 := by omega
        have k8 : (0 : Int) ≤ a1 := by omega
        have k9 : a1 < 18446744073709551616 := by omega
        have k10 : (0 : Int) ≤ a2 := by omega
        have k11 : a2 < 18446744073709551616 := by omega
        have k12 : (q : Int) ≤ 2045 := by omega
        subst hdd
        clear hu hG HFG HFL HFM HOR HX hpm hdm hqm hq1 hd11 ha1 ha2 hkb
        cases u with
        | true =>
          go_upto_region 11 with fail
          go_quiet (fail)
          go_wp2_with (refine (HR.out _).mono ?_; rintro r2 w2 ⟨rfl, rfl⟩)
          go_ret
          refine ⟨ret_int ?_, ?_⟩
          · rw [HG.out]; have h2 := A2.out; first | (rw [if_pos trivial]; omega) | (rw [if_pos rfl]; omega)
          · show Below _ _ _
            rw [HBe.out]
            repeat (first | exact B3.out | with_reducible refine Below.drew ?_ | with_reducible refine below_drewN ?_ _ | with_reducible refine Below.setCell ?_ (by simp) _)
        | false =>
          go_upto_region 11 with fail
          go_quiet (fail)
          go_wp2_with (refine (HR.out _).mono ?_; rintro r2 w2 ⟨rfl, rfl⟩)
          go_ret
          refine ⟨ret_int ?_, ?_⟩
          · rw [HG.out]; have h1 := A1.out; rw [if_neg (by simp)]; omega
          · show Below _ _ _
            rw [HBe.out]
            repeat (first | exact B3.out | with_reducible refine Below.drew ?_ | with_reducible refine below_drewN ?_ _ | with_reducible refine Below.setCell ?_ (by simp) _)
  | false =>
    by_cases hL0 : L = 0
    · have hL0 : ((L : Int) != 0) = false := by rw [bne_eq_false_iff_eq]; omega
      obtain rfl : H = X := by rw [← hX, show L = 0 by simpa using hL0]; rfl
      have HX := Lib.hid hX
      clear hX
      go_upto_region 4 with fail
      have x3 := x2
      have b3 := b2
      clear x2 b2 c0 c1 c2 c3 g0 g1 g2 g3

      have c0 := x3.c0
      have c1 := x3.c1
      have c2 := x3.c2
      have c3 := x3.c3
      have g0 := x3.f 0
      have B3 := Lib.hid b3
      clear x3 b3
      by_cases hgt : 1023 < top
      · have hmx : max (971 : Int) (-1074) = 971 := by decide
        have HG := Lib.hid (HFG.out (by omega))
        obtain ⟨u, hu⟩ : ∃ u, upc s mode 9007199254740991 18437736874454810624 = u := ⟨_, rfl⟩
        rw [hu] at HG
        have HR := Lib.hid (fun w => roundedUp_at (kI := 9007199254740991) (rI := 18437736874454810624) (by rfl) (by rfl) s mode HZ.out u hu w)
        have ho1 := HOR.out 9218868437227405311 (by omega)
        have ho2 := HOR.out 9218868437227405312 (by omega)
        rw [show ((9218868437227405311 : Nat) : Int) = 9218868437227405311 from rfl] at ho1
        rw [show ((9218868437227405312 : Nat) : Int) = 9218868437227405312 from rfl] at ho2
        clear hu HFG HFL HFM HOR HX
        cases u with
        | true =>
          go_upto_region 11 with fail
          go_quiet (fail)
          go_wp2_with (refine (HR.out _).mono ?_; rintro r2 w2 ⟨rfl, rfl⟩)
          go_ret
          refine ⟨ret_int ?_, ?_⟩
          · rw [HG.out]; rfl
          · show Below _ _ _
            rw [HBe.out]
            repeat (first | exact B3.out | with_reducible refine Below.drew ?_ | with_reducible refine below_drewN ?_ _ | with_reducible refine Below.setCell ?_ (by simp) _)
        | false =>
          go_upto_region 11 with fail
          go_quiet (fail)
          go_wp2_with (refine (HR.out _).mono ?_; rintro r2 w2 ⟨rfl, rfl⟩)
          go_ret
          refine ⟨ret_int ?_, ?_⟩
          · rw [HG.out]; rfl
          · show Below _ _ _
            rw [HBe.out]
            repeat (first | exact B3.out | with_reducible refine Below.drew ?_ | with_reducible refine below_drewN ?_ _ | with_reducible refine Below.setCell ?_ (by simp) _)
      · obtain ⟨pl, hpl⟩ : ∃ pl : Int, max (top - 52) (-1074) = pl := ⟨_, rfl⟩
        have hpl0 : -1074 ≤ pl := by omega
        have hpl1 : pl ≤ 971 := by omega
        have hpm : max (e2 + 75) (-1074) = pl := by omega
        obtain ⟨dr, hdr⟩ : ∃ dr : Int, pl - (top - 64 + 1) = dr := ⟨_, rfl⟩
        obtain ⟨q, hq⟩ : ∃ q : Nat, pl - -1074 = (q : Int) := ⟨(pl + 1074).toNat, by omega⟩
        have hq1 : q ≤ 2045 := by omega
        have hdm : max (e2 + 75) (-1074) - e2 - 64 = dr := by omega
        have hqm : (max (e2 + 75) (-1074) + 1074).toNat = q := by omega
        have hgt : top ≤ 1023 := by omega
        by_cases hd : 64 < dr
        · obtain rfl : q = 0 := by omega
          have HG := Lib.hid (HFL.out (by omega))
          obtain ⟨u, hu⟩ : ∃ u, upc s mode 0 1 = u := ⟨_, rfl⟩
          rw [hu] at HG
          have HR := Lib.hid (fun w => roundedUp_at (kI := 0) (rI := 1) (by rfl) (by rfl) s mode HZ.out u hu w)
          have ho1 := HOR.out 0 (by omega)
          have ho2 := HOR.out 1 (by omega)
          rw [show ((0 : Nat) : Int) = 0 from rfl] at ho1 hq
          rw [show ((1 : Nat) : Int) = 1 from rfl] at ho2
          clear hu HFG HFL HFM HOR HX hpm hdm hqm hq1
          cases u with
          | true =>
            go_upto_region 11 with fail
            go_quiet (fail)
            go_wp2_with (refine (HR.out _).mono ?_; rintro r2 w2 ⟨rfl, rfl⟩)
            go_ret
            refine ⟨ret_int ?_, ?_⟩
            · rw [HG.out]; rfl
            · show Below _ _ _
              rw [HBe.out]
              repeat (first | exact B3.out | with_reducible refine Below.drew ?_ | with_reducible refine below_drewN ?_ _ | with_reducible refine Below.setCell ?_ (by simp) _)
          | false =>
            go_upto_region 11 with fail
            go_quiet (fail)
            go_wp2_with (refine (HR.out _).mono ?_; rintro r2 w2 ⟨rfl, rfl⟩)
            go_ret
            refine ⟨ret_int ?_, ?_⟩
            · rw [HG.out]; rfl
            · show Below _ _ _
              rw [HBe.out]
              repeat (first | exact B3.out | with_reducible refine Below.drew ?_ | with_reducible refine below_drewN ?_ _ | with_reducible refine Below.setCell ?_ (by simp) _)
        · obtain ⟨d, hdd⟩ : ∃ d : Nat, dr = (d : Int) := ⟨dr.toNat, by omega⟩
          have hd11 : 11 ≤ d ∧ d ≤ 64 := by omega
          have hG := HFM.out d (by omega) (by omega) hd11.2
          rw [hqm] at hG
          have hkb : H / 2 ^ d ≤ 9007199254740992 := by
            have h1 : 2 ^ 11 ≤ 2 ^ d := Nat.pow_le_pow_right (by omega) hd11.1
            have h2 : H / 2 ^ d ≤ H / 2 ^ 11 := Nat.div_le_div_left h1 (by decide)
            omega
          have hs1 : IntKind.u64.wrap ((H : Int) * 2 ^ (64 - d)) = ((H * 2 ^ (64 - d) % 18446744073709551616 : Nat) : Int) := by rw [IntKind.wrap_u64]; exact (cast_modpow H (64 - d) 18446744073709551616).symm
          have hs2 : (H : Int) / 2 ^ d = ((H / 2 ^ d : Nat) : Int) := (cast_divpow _ _).symm
          obtain ⟨u, hu⟩ : ∃ u, upc s mode (H / 2 ^ d) (H * 2 ^ (64 - d) % 18446744073709551616) = u := ⟨_, rfl⟩
          rw [hu] at hG
          generalize H / 2 ^ d = kp at *
          generalize H * 2 ^ (64 - d) % 18446744073709551616 = rs at *
          have HR := Lib.hid (fun w => roundedUp_at (kI := (kp : Int)) (rI := (rs : Int)) rfl rfl s mode HZ.out u hu w)
          have HG := Lib.hid hG
          have ho1 := HOR.out (q * 4503599627370496 + kp) (by omega)
          have ho2 := HOR.out (q * 4503599627370496 + (kp + 1)) (by omega)
          obtain ⟨a1, ha1⟩ : ∃ a1 : Int, ((q * 4503599627370496 + kp : Nat) : Int) = a1 := ⟨_, rfl⟩
          obtain ⟨a2, ha2⟩ : ∃ a2 : Int, ((q * 4503599627370496 + (kp + 1) : Nat) : Int) = a2 := ⟨_, rfl⟩
          rw [ha1] at ho1
          rw [ha2] at ho2
          have A1 := Lib.hid ha1
          have A2 := Lib.hid ha2
          have k1 : (q : Int) * 4503599627370496 + (kp : Int) = a1 := by omega
          have k2 : (q : Int) * 4503599627370496 + ((kp : Int) + 1) = a2 := by omega
          have k3 : (0 : Int) ≤ (d : Int) := by omega
          have k4 : (d : Int) ≤ 64 := by omega
          have k5 : (0 : Int) ≤ 64 - (d : Int) := by omega
          have k6 : (kp : Int) + 1 < 18446744073709551616 := by omega
          have k7 : (q : Int) * 4503599627370496 < 18446744073709551616 := by omega
          have k8 : (0 : Int) ≤ a1 := by omega
          have k9 : a1 < 18446744073709551616 := by omega
          have k10 : (0 : Int) ≤ a2 := by omega
          have k11 : a2 < 18446744073709551616 := by omega
          have k12 : (q : Int) ≤ 2045 := by omega
          subst hdd
          clear hu hG HFG HFL HFM HOR HX hpm hdm hqm hq1 hd11 ha1 ha2 hkb
          cases u with
          | true =>
            go_upto_region 11 with fail
            go_quiet (fail)
            go_wp2_with (refine (HR.out _).mono ?_; rintro r2 w2 ⟨rfl, rfl⟩)
            go_ret
            refine ⟨ret_int ?_, ?_⟩
            · rw [HG.out]; have h2 := A2.out; first | (rw [if_pos trivial]; omega) | (rw [if_pos rfl]; omega)
            · show Below _ _ _
              rw [HBe.out]
              repeat (first | exact B3.out | with_reducible refine Below.drew ?_ | with_reducible refine below_drewN ?_ _ | with_reducible refine Below.setCell ?_ (by simp) _)
          | false =>
            go_upto_region 11 with fail
            go_quiet (fail)
            go_wp2_with (refine (HR.out _).mono ?_; rintro r2 w2 ⟨rfl, rfl⟩)
            go_ret
            refine ⟨ret_int ?_, ?_⟩
            · rw [HG.out]; have h1 := A1.out; rw [if_neg (by simp)]; omega
            · show Below _ _ _
              rw [HBe.out]
              repeat (first | exact B3.out | with_reducible refine Below.drew ?_ | with_reducible refine below_drewN ?_ _ | with_reducible refine Below.setCell ?_ (by simp) _)
    · have hL1 : (false || decide (L ≠ 0)) = true := by simp [hL0]
      rw [hL1] at hX
      have hL0 : ((L : Int) != 0) = true := by rw [bne_iff_ne]; omega
      clear hL1
      obtain rfl : H / 2 * 2 + 1 = X := by rw [← hX]; rfl
      have HX := Lib.hid hX
      clear hX
      generalize H / 2 * 2 + 1 = X at *
      go_upto_region 4 with fail
      have x3 := x2.stored0 X
      have b3 := b2.trans ((only_set1 W2 B 0 (.int .u64 X)).below (Nat.le_refl _))
      generalize W2.setCell ⟨B, 0, none⟩ (.int .u64 X) = W3 at *
      clear x2 b2 c0 c1 c2 c3 g0 g1 g2 g3

      have c0 := x3.c0
      have c1 := x3.c1
      have c2 := x3.c2
      have c3 := x3.c3
      have g0 := x3.f 0
      have B3 := Lib.hid b3
      clear x3 b3
      by_cases hgt : 1023 < top
      · have hmx : max (971 : Int) (-1074) = 971 := by decide
        have HG := Lib.hid (HFG.out (by omega))
        obtain ⟨u, hu⟩ : ∃ u, upc s mode 9007199254740991 18437736874454810624 = u := ⟨_, rfl⟩
        rw [hu] at HG
        have HR := Lib.hid (fun w => roundedUp_at (kI := 9007199254740991) (rI := 18437736874454810624) (by rfl) (by rfl) s mode HZ.out u hu w)
        have ho1 := HOR.out 9218868437227405311 (by omega)
        have ho2 := HOR.out 9218868437227405312 (by omega)
        rw [show ((9218868437227405311 : Nat) : Int) = 9218868437227405311 from rfl] at ho1
        rw [show ((9218868437227405312 : Nat) : Int) = 9218868437227405312 from rfl] at ho2
        clear hu HFG HFL HFM HOR HX
        cases u with
        | true =>
          go_upto_region 11 with fail
          go_quiet (fail)
          go_wp2_with (refine (HR.out _).mono ?_; rintro r2 w2 ⟨rfl, rfl⟩)
          go_ret
          refine ⟨ret_int ?_, ?_⟩
          · rw [HG.out]; rfl
          · show Below _ _ _
            rw [HBe.out]
            repeat (first | exact B3.out | with_reducible refine Below.drew ?_ | with_reducible refine below_drewN ?_ _ | with_reducible refine Below.setCell ?_ (by simp) _)
        | false =>
          go_upto_region 11 with fail
          go_quiet (fail)
          go_wp2_with (refine (HR.out _).mono ?_; rintro r2 w2 ⟨rfl, rfl⟩)
          go_ret
          refine ⟨ret_int ?_, ?_⟩
          · rw [HG.out]; rfl
          · show Below _ _ _
            rw [HBe.out]
            repeat (first | exact B3.out | with_reducible refine Below.drew ?_ | with_reducible refine below_drewN ?_ _ | with_reducible refine Below.setCell ?_ (by simp) _)
      · obtain ⟨pl, hpl⟩ : ∃ pl : Int, max (top - 52) (-1074) = pl := ⟨_, rfl⟩
        have hpl0 : -1074 ≤ pl := by omega
        have hpl1 : pl ≤ 971 := by omega
        have hpm : max (e2 + 75) (-1074) = pl := by omega
        obtain ⟨dr, hdr⟩ : ∃ dr : Int, pl - (top - 64 + 1) = dr := ⟨_, rfl⟩
        obtain ⟨q, hq⟩ : ∃ q : Nat, pl - -1074 = (q : Int) := ⟨(pl + 1074).toNat, by omega⟩
        have hq1 : q ≤ 2045 := by omega
        have hdm : max (e2 + 75) (-1074) - e2 - 64 = dr := by omega
        have hqm : (max (e2 + 75) (-1074) + 1074).toNat = q := by omega
        have hgt : top ≤ 1023 := by omega
        by_cases hd : 64 < dr
        · obtain rfl : q = 0 := by omega
          have HG := Lib.hid (HFL.out (by omega))
          obtain ⟨u, hu⟩ : ∃ u, upc s mode 0 1 = u := ⟨_, rfl⟩
          rw [hu] at HG
          have HR := Lib.hid (fun w => roundedUp_at (kI := 0) (rI := 1) (by rfl) (by rfl) s mode HZ.out u hu w)
          have ho1 := HOR.out 0 (by omega)
          have ho2 := HOR.out 1 (by omega)
          rw [show ((0 : Nat) : Int) = 0 from rfl] at ho1 hq
          rw [show ((1 : Nat) : Int) = 1 from rfl] at ho2
          clear hu HFG HFL HFM HOR HX hpm hdm hqm hq1
          cases u with
          | true =>
            go_upto_region 11 with fail
            go_quiet (fail)
            go_wp2_with (refine (HR.out _).mono ?_; rintro r2 w2 ⟨rfl, rfl⟩)
            go_ret
            refine ⟨ret_int ?_, ?_⟩
            · rw [HG.out]; rfl
            · show Below _ _ _
              rw [HBe.out]
              repeat (first | exact B3.out | with_reducible refine Below.drew ?_ | with_reducible refine below_drewN ?_ _ | with_reducible refine Below.setCell ?_ (by simp) _)
          | false =>
            go_upto_region 11 with fail
            go_quiet (fail)
            go_wp2_with (refine (HR.out _).mono ?_; rintro r2 w2 ⟨rfl, rfl⟩)
            go_ret
            refine ⟨ret_int ?_, ?_⟩
            · rw [HG.out]; rfl
            · show Below _ _ _
              rw [HBe.out]
              repeat (first | exact B3.out | with_reducible refine Below.drew ?_ | with_reducible refine below_drewN ?_ _ | with_reducible refine Below.setCell ?_ (by simp) _)
        · obtain ⟨d, hdd⟩ : ∃ d : Nat, dr = (d : Int) := ⟨dr.toNat, by omega⟩
          have hd11 : 11 ≤ d ∧ d ≤ 64 := by omega
          have hG := HFM.out d (by omega) (by omega) hd11.2
          rw [hqm] at hG
          have hkb : X / 2 ^ d ≤ 9007199254740992 := by
            have h1 : 2 ^ 11 ≤ 2 ^ d := Nat.pow_le_pow_right (by omega) hd11.1
            have h2 : X / 2 ^ d ≤ X / 2 ^ 11 := Nat.div_le_div_left h1 (by decide)
            omega
          have hs1 : IntKind.u64.wrap ((X : Int) * 2 ^ (64 - d)) = ((X * 2 ^ (64 - d) % 18446744073709551616 : Nat) : Int) := by rw [IntKind.wrap_u64]; exact (cast_modpow X (64 - d) 18446744073709551616).symm
          have hs2 : (X : Int) / 2 ^ d = ((X / 2 ^ d : Nat) : Int) := (cast_divpow _ _).symm
          obtain ⟨u, hu⟩ : ∃ u, upc s mode (X / 2 ^ d) (X * 2 ^ (64 - d) % 18446744073709551616) = u := ⟨_, rfl⟩
          rw [hu] at hG
          generalize X / 2 ^ d = kp at *
          generalize X * 2 ^ (64 - d) % 18446744073709551616 = rs at *
          have HR := Lib.hid (fun w => roundedUp_at (kI := (kp : Int)) (rI := (rs : Int)) rfl rfl s mode HZ.out u hu w)
          have HG := Lib.hid hG
          have ho1 := HOR.out (q * 4503599627370496 + kp) (by omega)
          have ho2 := HOR.out (q * 4503599627370496 + (kp + 1)) (by omega)
          obtain ⟨a1, ha1⟩ : ∃ a1 : Int, ((q * 4503599627370496 + kp : Nat) : Int) = a1 := ⟨_, rfl⟩
          obtain ⟨a2, ha2⟩ : ∃ a2 : Int, ((q * 4503599627370496 + (kp + 1) : Nat) : Int) = a2 := ⟨_, rfl⟩
          rw [ha1] at ho1
          rw [ha2] at ho2
          have A1 := Lib.hid ha1
          have A2 := Lib.hid ha2
          have k1 : (q : Int) * 4503599627370496 + (kp : Int) = a1 := by omega
          have k2 : (q : Int) * 4503599627370496 + ((kp : Int) + 1) = a2 := by omega
          have k3 : (0 : Int) ≤ (d : Int) := by omega
          have k4 : (d : Int) ≤ 64 := by omega
          have k5 : (0 : Int) ≤ 64 - (d : Int) := by omega
          have k6 : (kp : Int) + 1 < 18446744073709551616 := by omega
          have k7 : (q : Int) * 4503599627370496 < 18446744073709551616 := by omega
          have k8 : (0 : Int) ≤ a1 := by omega
          have k9 : a1 < 18446744073709551616 := by omega
          have k10 : (0 : Int) ≤ a2 := by omega
          have k11 : a2 < 18446744073709551616 := by omega
          have k12 : (q : Int) ≤ 2045 := by omega
          subst hdd
          clear hu hG HFG HFL HFM HOR HX hpm hdm hqm hq1 hd11 ha1 ha2 hkb
          cases u with
          | true =>
            go_upto_region 11 with fail
            go_quiet (fail)
            go_wp2_with (refine (HR.out _).mono ?_; rintro r2 w2 ⟨rfl, rfl⟩)
            go_ret
            refine ⟨ret_int ?_, ?_⟩
            · rw [HG.out]; have h2 := A2.out; first | (rw [if_pos trivial]; omega) | (rw [if_pos rfl]; omega)
            · show Below _ _ _
              rw [HBe.out]
              repeat (first | exact B3.out | with_reducible refine Below.drew ?_ | with_reducible refine below_drewN ?_ _ | with_reducible refine Below.setCell ?_ (by simp) _)
          | false =>
            go_upto_region 11 with fail
            go_quiet (fail)
            go_wp2_with (refine (HR.out _).mono ?_; rintro r2 w2 ⟨rfl, rfl⟩)
            go_ret
            refine ⟨ret_int ?_, ?_⟩
            · rw [HG.out]; have h1 := A1.out; rw [if_neg (by simp)]; omega
            · show Below _ _ _
              rw [HBe.out]
              repeat (first | exact B3.out | with_reducible refine Below.drew ?_ | with_reducible refine below_drewN ?_ _ | with_reducible refine Below.setCell ?_ (by simp) _)
end Go.Proofs.YtapcecjbmcoliaaGreatDoor
