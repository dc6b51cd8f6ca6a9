import Derived.Test.YtlpclahlolhjfaaGreatDoorMoRlU41
import Derived.Test.YtlpclahlolhjfaaGreatDoorMoRlU42
import Derived.Test.YtlpclahlolhjfaaGreatDoorMoRlU8
import Derived.Test.YtlpclahlolhjfaaGreatDoorMoRlU6
import Derived.Test.YtlpclahlolhjfaaGreatDoorMoRlU2
import Derived.Test.YtlpclahlolhjfaaGreatDoorMoRlU7
namespace Go.Proofs.YtlpclahlolhjfaaGreatDoor
open Go.RowKit

set_option maxRecDepth 100000 in
set_option maxHeartbeats 8000000 in
theorem common_ge (a b : Nat) (ao bo : Option Addr) (n m ca cb : Nat) (w : World) (ha : Sl w ao n ca (limbs a)) (hb : Sl w bo m cb (limbs b)) (hn : n ≤ 100000000) (hm : m ≤ 100000000) (hab : b ≤ a) :
    Calls Tryz.prog 90 #[.slice ao n ca, .slice bo m cb] w fun e w' => ∃ ro k rc, e = .returned (.slice ro k rc) ∧ Sl w' ro k rc (limbs (Nat.gcd a b)) ∧ Below w.heap.size w w' := by
  have hs : decide (sgn3 (a : Int) b < 0) = false := by simp [sgn3]; omega
  obtain ⟨G, hG⟩ : ∃ G, Nat.gcd a b = G := ⟨_, rfl⟩
  have hG0 : Nat.gcd a b = G := hG
  rw [hG]
  have HG0 := Lib.hid hG0
  have HAB := Lib.hid hab
  clear hG hG0 hab
  go_enter Tryz.func90, Tryz.ntmps90
  go_wp2_with fail
  refine (compare_any _ _ _ _ _ _ _ _ _ ha hb).mono ?_
  rintro e w1 ⟨rfl, q, rfl⟩
  obtain ⟨W1, hW1, hq⟩ := drewN_world w q
  rw [hW1]
  clear hW1
  have ha1 := ha.below hq
  have hb1 := hb.below hq
  go_wp2_with fail
  refine (clone_any _ _ _ _ _ ha1).mono ?_
  rintro e w2 ⟨rfl, h1, hw2⟩
  have hq1 := hb1.below hw2
  have hB2 := Below.trans hq (hw2.mono (Below.size hq))
  go_wp2_with fail
  refine (clone_any _ _ _ _ _ hq1).mono ?_
  rintro e w3 ⟨rfl, h2, hw3⟩
  have hgg := h1.lt
  have h1 := h1.below hw3
  have hB3 : Below w.heap.size w w3 := Below.trans hB2 (hw3.mono (by have := Below.size hB2; omega))
  have hz1 := Below.size hq
  have o1 := Owns.clone h1 ha1.len (by omega)
  have o2 := Owns.clone h2 hb1.len (by omega)
  have HB3 := Lib.hid hB3
  generalize W1.heap.size = g1 at *
  generalize w2.heap.size = g2 at *
  generalize hBe : w.heap.size = B at *
  have HBe := Lib.hid hBe
  clear hw2 hw3 hB2 hB3 hq ha1 hb1 ha hb hq1 h1 h2 hBe
  go_wp2
  go_loopw [5, 6, 7, 8, 9] (fun x y _ _ _ wr => ∃ (X Y gx nx cx : Nat) (yo : Option Addr) (ny cy : Nat), x = .slice (some ⟨gx, 0, none⟩) nx cx ∧ y = .slice yo ny cy ∧ Owns wr gx nx cx X ∧ OwnR wr B yo ny cy Y ∧ (yo ≠ some ⟨gx, 0, none⟩ ∨ ny = 0) ∧ B ≤ gx ∧ Y ≤ X ∧ Nat.gcd X Y = G ∧ nx ≤ 100000000 ∧ Below B w wr)
    (fun _ y _ _ _ wr => valAt wr y)
  case atStart => exact ⟨a, b, g1, n, n, _, m, m, rfl, rfl, o1, Or.inr ⟨g2, rfl, by omega, o2⟩, Or.inl (by intro e; injection e with e; injection e with e; omega), by omega, by have := HAB.out; omega, HG0.out, by omega, HB3.out⟩
  case round =>
    obtain ⟨X, Y, gx, nx, cx, yo, ny, cy, rfl, rfl, hX, hY, hne, hBx, hYX, hgcd, hnx, hB⟩ := hrel
    have hval := valAt_is (w := wr) (v := .slice yo ny cy) ⟨yo, ny, cy, rfl, hY.sl⟩
    have HVAL := Lib.hid hval
    have HG := Lib.hid hgcd
    have HY := Lib.hid hY
    have HX := Lib.hid hX
    have HB := Lib.hid hB
    have HYX := Lib.hid hYX
    have hsx := hX.sl
    have hsy := hY.sl
    have hnn : ny ≤ nx := by
      have h := limbs_mono hYX
      rw [hsx.len, hsy.len] at h
      exact h
    have hBsz : B ≤ wr.heap.size := by rw [← HBe.out]; exact Below.size hB
    clear hval hgcd hX hY hB o1 o2
    by_cases h2 : 2 < ny
    · obtain ⟨gy, rfl, hBy, hoy⟩ : ∃ gy, yo = some ⟨gy, 0, none⟩ ∧ B ≤ gy ∧ Owns wr gy ny cy Y := by
        rcases HY.out with ⟨-, h⟩ | h
        · omega
        · exact h
      have hgne : gx ≠ gy := by
        rcases hne with h | h
        · intro e; exact h (by rw [e])
        · omega
      clear hne
      go_wp2_with fail
      refine (euclid_any X Y _ _ _ _ _ _ wr hsx hsy hYX (by omega) (by omega)).mono ?_
      rintro e w4 ⟨a', b', c', d', u, v, u0, v0, rfl, hL, hE4⟩
      have HL := Lib.hid hL
      go_upto_region 6 with fail
      obtain ⟨W5, hW5, hE5, hbx, -⟩ := cof_new w4 a' b' c' d'
      rw [← hW5]
      clear hW5
      have hE6 : Below wr.heap.size wr W5 := hE4.trans (hE5.mono (Below.size hE4))
      have q0 := hbx.c0
      have q1 := hbx.c1
      have q2 := hbx.c2
      have q3 := hbx.c3
      generalize w4.heap.size = gf at *
      have HBX := Lib.hid hbx
      have hsx5 := hsx.below hE6
      have hsy5 := hsy.below hE6
      have hox := HX.out.below hE6
      have hoy := hoy.below hE6
      have hB5 := Below.trans HB.out (hE6.mono hBsz)
      have hz5 : B ≤ W5.heap.size := by rw [← HBe.out]; exact Below.size hB5
      have hgy5 := hoy.lt
      clear hE4 hL hbx hE5 hE6 hsx hsy
      by_cases hb0 : b' = 0
      · have hbz : (b' != 0) = false := by simp [hb0]
        obtain ⟨mm, rfl⟩ : ∃ mm, ny = mm + 2 := ⟨ny - 2, by omega⟩
        have HOX := Lib.hid hox
        have HOY := Lib.hid hoy
        have HB5 := Lib.hid hB5
        clear hox hoy hB5 hb0
        go_wp2_with fail
        refine (divide_own X Y _ _ _ mm _ _ W5 hsx5 hsy5 HYX.out (by omega)).mono ?_
        rintro e w6 ⟨qo, qk, qc, ro, rk, rc, rfl, -, hr6, hE6⟩
        have hoy6 := HOY.out.below hE6
        have hB6 := Below.trans HB5.out (hE6.mono hz5)
        have hneq : ro ≠ some ⟨gy, 0, none⟩ ∨ rk = 0 := by
          rcases hr6 with ⟨-, h⟩ | ⟨g, rfl, hg, -⟩
          · exact Or.inr h
          · refine Or.inl ?_
            intro e
            injection e with e
            injection e with e
            omega
        have hr6' := hr6.mono hz5
        have hy0 := len_pos hsy5 (by omega)
        have hml := Nat.mod_lt X (Nat.pos_of_ne_zero hy0)
        have hgcd2 : Nat.gcd Y (X % Y) = G := by rw [← HG.out, Nat.gcd_comm X Y, Nat.gcd_rec Y X, Nat.gcd_comm]
        have hval2 := valAt_is (w := w6) (v := .slice ro rk rc) ⟨ro, rk, rc, rfl, hr6.sl⟩
        have hny := HOY.out
        obtain ⟨LY, -, -, -, hly1, hly2, hly3⟩ := hny
        have HR := Lib.hid (show _ ∧ _ ∧ _ ∧ _ ∧ _ ∧ _ from ⟨hoy6, hr6', hneq, hml, hgcd2, hB6⟩)
        have HV2 := Lib.hid hval2
        clear hr6 hr6' hoy6 hB6 hneq hml hgcd2 hval2 hE6
        go_wp2
        go_roundw
        case rel => exact ⟨Y, X % Y, gy, mm + 2, cy, ro, rk, rc, rfl, rfl, HR.out.1, HR.out.2.1, HR.out.2.2.1, hBy, Nat.le_of_lt HR.out.2.2.2.1, HR.out.2.2.2.2.1, by omega, HR.out.2.2.2.2.2⟩
        case measure => rw [HVAL.out, HV2.out]; exact HR.out.2.2.2.1
      · have hbz : (b' != 0) = true := by simp [hb0]
        obtain ⟨LX, hbX, hwX, htX, hlX, hcX, hcX2⟩ := hox
        obtain ⟨LY, hbY, hwY, htY, hlY, hcY, hcY2⟩ := hoy
        have HT := Lib.hid (And.intro htX htY)
        have HB5 := Lib.hid hB5
        have HB0 := Lib.hid hb0
        clear hB5 hsx5 hsy5 htX htY hb0
        go_wp2_with fail
        refine (apply_any a' b' c' d' gx gy nx ny cx cy B LX LY W5 hbX hbY hgne hwX hwY hlX hlY hnn (by omega) (by omega) (by omega) HL.out.pairs.1 HL.out.pairs.2 hBx hBy).mono ?_
        rintro e w6 ⟨rfl, X', Y', e1, e2, k1, k2, hx6, hy6, hB6⟩
        have lx6 := k1.1
        have ly6 := k2.1
        have wx6 := k1.2.1
        have wy6 := k2.2.1
        obtain ⟨X1, Y1, hX1, hY1, hle, hg, hlt, -⟩ := lehmer_next HL.out HB0.out HT.out.1 HT.out.2 hnn hlX hlY k1 k2
        have s1 : Sl w6 (some ⟨gx, 0, none⟩) ny cx (X'.take ny) := (hx6.sl (n := X'.length) (cap := cx) wx6 rfl (by omega) (by omega)).take ny (by omega)
        have s2 : Sl w6 (some ⟨gy, 0, none⟩) ny cy (Y'.take ny) := (hy6.sl (n := Y'.length) (cap := cy) wy6 rfl (by omega) (by omega)).take ny (by omega)
        have hcapx : ny ≤ cx := by omega
        have HB6 := Lib.hid (Below.trans HB5.out hB6)
        have HXY := Lib.hid (show _ ∧ _ ∧ _ ∧ _ ∧ _ from ⟨hle, hg, hlt, hx6, hy6⟩)
        clear hbX hbY k1 k2 hle hg hlt hx6 hy6 hB6 q0 q1 q2 q3
        go_wp2_with fail
        refine (trim_sl _ _ _ _ w6 s1).mono ?_
        rintro e w7 ⟨i1, rfl, t1, rfl⟩
        go_wp2_with fail
        refine (trim_sl _ _ _ _ w6 s2).mono ?_
        rintro e w7 ⟨i2, rfl, t2, rfl⟩
        have o1 := Owns.trim HXY.out.2.2.2.1 wx6 (m := ny) (by omega) t1.len (ca := cx) (by omega) (by omega)
        have o2 := Owns.trim HXY.out.2.2.2.2 wy6 (m := ny) (by omega) t2.len (ca := cy) (by omega) (by omega)
        rw [hX1] at o1
        rw [hY1] at o2
        have hval2 := valAt_is (w := w6) (v := .slice (some ⟨gy, 0, none⟩) i2 cy) ⟨_, i2, cy, rfl, o2.sl⟩
        have hi1 : i1 ≤ ny := by
          have h := (limbs_len_le (num (X'.take ny)).toNat ny).2 (by
            have h := num_lt (wx6.take ny)
            rw [List.length_take, Nat.min_eq_left (by omega)] at h
            have h0 := num_nonneg (wx6.take ny)
            have h2 : ((4294967296 ^ ny : Nat) : Int) = 4294967296 ^ ny := by rw [Int.natCast_pow]; rfl
            rw [← h2] at h
            omega)
          rw [t1.len] at h
          exact h
        have HO := Lib.hid (And.intro o1 o2)
        have HV2 := Lib.hid hval2
        clear s1 s2 t1 t2 hX1 hY1 o1 o2 hval2
        go_wp2
        go_roundw
        case rel => exact ⟨X1, Y1, gx, i1, cx, some ⟨gy, 0, none⟩, i2, cy, rfl, rfl, HO.out.1, Or.inr ⟨gy, rfl, hBy, HO.out.2⟩, Or.inl (by intro e; injection e with e; injection e with e; omega), hBx, HXY.out.1, by rw [HXY.out.2.1]; exact HG.out, by omega, HB6.out⟩
        case measure => rw [HVAL.out, HV2.out]; exact HXY.out.2.2.1
    · by_cases h0 : ny = 0
      · subst h0
        have hy0 : Y = 0 := limbs_inj ((List.eq_nil_of_length_eq_zero hsy.len).trans limbs_zero.symm)
        subst hy0
        have HSX := Lib.hid hsx
        clear hsx hsy
        go_wp2
        go_ret
        refine ⟨_, nx, cx, rfl, ?_, by rw [HBe.out]; exact HB.out⟩
        rw [← HG.out, Nat.gcd_zero_right]
        exact HSX.out
      · have hn0 : (((ny : Nat) : Int) == 0) = false := by apply beq_eq_false_iff_ne.2; omega
        have hy0 := len_pos hsy (by omega)
        have hyl : Y < 18446744073709551616 := by
          have h := (limbs_len_le Y 2).1 (by rw [hsy.len]; omega)
          omega
        have HSX := Lib.hid hsx
        have HSY := Lib.hid hsy
        go_wp2_with fail
        refine (div_says X Y hy0 _ _ _ _ _ _ wr hsx hsy (by omega) (by omega)).mono ?_
        rintro e w4 ⟨qo, qk, qc, ro, rk, rc, rfl, hq4, hr4, hE4⟩
        have hsy4 := hsy.below hE4
        have hB4 := Below.trans HB.out (hE4.mono (by omega))
        have hz4 := Below.size hE4
        have hrl : X % Y < 18446744073709551616 := Nat.lt_trans (Nat.mod_lt _ (by omega)) hyl
        have hgcd2 : Nat.gcd Y (X % Y) = G := by rw [← HG.out, Nat.gcd_comm X Y, Nat.gcd_rec Y X, Nat.gcd_comm]
        generalize X % Y = R at *
        clear hq4 hE4 hsx hsy
        go_wp2_with fail
        refine (bits0_any Y _ _ _ w4 hsy4 hyl).mono ?_
        rintro e w5 ⟨rfl, hE5⟩
        have hr5 := hr4.below hE5
        have hB5 := Below.trans hB4 (hE5.mono (by omega))
        have hz5 := Below.size hE5
        go_wp2_with fail
        refine (bits0_any R _ _ _ w5 hr5 hrl).mono ?_
        rintro e w6 ⟨rfl, hE6⟩
        have hB6 := Below.trans hB5 (hE6.mono (by omega))
        have hz6 := Below.size hE6
        go_wp2_with fail
        refine (wordGcd_any Y R w6 hyl hrl).mono ?_
        rintro e w7 ⟨rfl, hE7⟩
        rw [hgcd2]
        have hB7 := Below.trans hB6 (Below.mono hE7 (by omega))
        have hz7 := Below.size hE7
        have hGl : G < 18446744073709551616 := by
          rw [← hgcd2]
          exact Nat.lt_of_le_of_lt (Nat.gcd_le_left R (by omega)) hyl
        clear hE5 hE6 hE7 hr4 hr5 hsy4 hB4 hB5 hB6
        go_wp2_with fail
        refine (fromWord_any (G : Int) w7 (by omega) (by omega)).mono ?_
        rintro e w8 ⟨so, sk, sc, rfl, hs8, hE8⟩
        rw [Int.toNat_natCast] at hs8
        have hB8 := Below.trans hB7 (hE8.mono (by omega))
        clear hB7 hE8
        have HB8 := Lib.hid hB8
        have HS8 := Lib.hid hs8
        clear hB8 hs8
        go_wp2
        go_ret
        exact ⟨so, sk, sc, rfl, HS8.out, by rw [HBe.out]; exact HB8.out⟩
set_option maxRecDepth 100000 in
set_option maxHeartbeats 8000000 in
theorem common_lt (a b : Nat) (ao bo : Option Addr) (n m ca cb : Nat) (w : World) (ha : Sl w ao n ca (limbs a)) (hb : Sl w bo m cb (limbs b)) (hn : n ≤ 100000000) (hm : m ≤ 100000000) (hab : a < b) :
    Calls Tryz.prog 90 #[.slice ao n ca, .slice bo m cb] w fun e w' => ∃ ro k rc, e = .returned (.slice ro k rc) ∧ Sl w' ro k rc (limbs (Nat.gcd a b)) ∧ Below w.heap.size w w' := by
  have hs : decide (sgn3 (a : Int) b < 0) = true := by simp [sgn3]; omega
  obtain ⟨G, hG⟩ : ∃ G, Nat.gcd a b = G := ⟨_, rfl⟩
  have hG0 : Nat.gcd b a = G := (Nat.gcd_comm b a).trans hG
  rw [hG]
  have HG0 := Lib.hid hG0
  have HAB := Lib.hid hab
  clear hG hG0 hab
  go_enter Tryz.func90, Tryz.ntmps90
  go_wp2_with fail
  refine (compare_any _ _ _ _ _ _ _ _ _ ha hb).mono ?_
  rintro e w1 ⟨rfl, q, rfl⟩
  obtain ⟨W1, hW1, hq⟩ := drewN_world w q
  rw [hW1]
  clear hW1
  have ha1 := ha.below hq
  have hb1 := hb.below hq
  go_wp2_with fail
  refine (clone_any _ _ _ _ _ hb1).mono ?_
  rintro e w2 ⟨rfl, h1, hw2⟩
  have hq1 := ha1.below hw2
  have hB2 := Below.trans hq (hw2.mono (Below.size hq))
  go_wp2_with fail
  refine (clone_any _ _ _ _ _ hq1).mono ?_
  rintro e w3 ⟨rfl, h2, hw3⟩
  have hgg := h1.lt
  have h1 := h1.below hw3
  have hB3 : Below w.heap.size w w3 := Below.trans hB2 (hw3.mono (by have := Below.size hB2; omega))
  have hz1 := Below.size hq
  have o1 := Owns.clone h1 hb1.len (by omega)
  have o2 := Owns.clone h2 ha1.len (by omega)
  have HB3 := Lib.hid hB3
  generalize W1.heap.size = g1 at *
  generalize w2.heap.size = g2 at *
  generalize hBe : w.heap.size = B at *
  have HBe := Lib.hid hBe
  clear hw2 hw3 hB2 hB3 hq ha1 hb1 ha hb hq1 h1 h2 hBe
  go_wp2
  go_loopw [5, 6, 7, 8, 9] (fun x y _ _ _ wr => ∃ (X Y gx nx cx : Nat) (yo : Option Addr) (ny cy : Nat), x = .slice (some ⟨gx, 0, none⟩) nx cx ∧ y = .slice yo ny cy ∧ Owns wr gx nx cx X ∧ OwnR wr B yo ny cy Y ∧ (yo ≠ some ⟨gx, 0, none⟩ ∨ ny = 0) ∧ B ≤ gx ∧ Y ≤ X ∧ Nat.gcd X Y = G ∧ nx ≤ 100000000 ∧ Below B w wr)
    (fun _ y _ _ _ wr => valAt wr y)
  case atStart => exact ⟨b, a, g1, m, m, _, n, n, rfl, rfl, o1, Or.inr ⟨g2, rfl, by omega, o2⟩, Or.inl (by intro e; injection e with e; injection e with e; omega), by omega, by have := HAB.out; omega, HG0.out, by omega, HB3.out⟩
  case round =>
    obtain ⟨X, Y, gx, nx, cx, yo, ny, cy, rfl, rfl, hX, hY, hne, hBx, hYX, hgcd, hnx, hB⟩ := hrel
    have hval := valAt_is (w := wr) (v := .slice yo ny cy) ⟨yo, ny, cy, rfl, hY.sl⟩
    have HVAL := Lib.hid hval
    have HG := Lib.hid hgcd
    have HY := Lib.hid hY
    have HX := Lib.hid hX
    have HB := Lib.hid hB
    have HYX := Lib.hid hYX
    have hsx := hX.sl
    have hsy := hY.sl
    have hnn : ny ≤ nx := by
      have h := limbs_mono hYX
      rw [hsx.len, hsy.len] at h
      exact h
    have hBsz : B ≤ wr.heap.size := by rw [← HBe.out]; exact Below.size hB
    clear hval hgcd hX hY hB o1 o2
    by_cases h2 : 2 < ny
    · obtain ⟨gy, rfl, hBy, hoy⟩ : ∃ gy, yo = some ⟨gy, 0, none⟩ ∧ B ≤ gy ∧ Owns wr gy ny cy Y := by
        rcases HY.out with ⟨-, h⟩ | h
        · omega
        · exact h
      have hgne : gx ≠ gy := by
        rcases hne with h | h
        · intro e; exact h (by rw [e])
        · omega
      clear hne
      go_wp2_with fail
      refine (euclid_any X Y _ _ _ _ _ _ wr hsx hsy hYX (by omega) (by omega)).mono ?_
      rintro e w4 ⟨a', b', c', d', u, v, u0, v0, rfl, hL, hE4⟩
      have HL := Lib.hid hL
      go_upto_region 6 with fail
      obtain ⟨W5, hW5, hE5, hbx, -⟩ := cof_new w4 a' b' c' d'
      rw [← hW5]
      clear hW5
      have hE6 : Below wr.heap.size wr W5 := hE4.trans (hE5.mono (Below.size hE4))
      have q0 := hbx.c0
      have q1 := hbx.c1
      have q2 := hbx.c2
      have q3 := hbx.c3
      generalize w4.heap.size = gf at *
      have HBX := Lib.hid hbx
      have hsx5 := hsx.below hE6
      have hsy5 := hsy.below hE6
      have hox := HX.out.below hE6
      have hoy := hoy.below hE6
      have hB5 := Below.trans HB.out (hE6.mono hBsz)
      have hz5 : B ≤ W5.heap.size := by rw [← HBe.out]; exact Below.size hB5
      have hgy5 := hoy.lt
      clear hE4 hL hbx hE5 hE6 hsx hsy
      by_cases hb0 : b' = 0
      · have hbz : (b' != 0) = false := by simp [hb0]
        obtain ⟨mm, rfl⟩ : ∃ mm, ny = mm + 2 := ⟨ny - 2, by omega⟩
        have HOX := Lib.hid hox
        have HOY := Lib.hid hoy
        have HB5 := Lib.hid hB5
        clear hox hoy hB5 hb0
        go_wp2_with fail
        refine (divide_own X Y _ _ _ mm _ _ W5 hsx5 hsy5 HYX.out (by omega)).mono ?_
        rintro e w6 ⟨qo, qk, qc, ro, rk, rc, rfl, -, hr6, hE6⟩
        have hoy6 := HOY.out.below hE6
        have hB6 := Below.trans HB5.out (hE6.mono hz5)
        have hneq : ro ≠ some ⟨gy, 0, none⟩ ∨ rk = 0 := by
          rcases hr6 with ⟨-, h⟩ | ⟨g, rfl, hg, -⟩
          · exact Or.inr h
          · refine Or.inl ?_
            intro e
            injection e with e
            injection e with e
            omega
        have hr6' := hr6.mono hz5
        have hy0 := len_pos hsy5 (by omega)
        have hml := Nat.mod_lt X (Nat.pos_of_ne_zero hy0)
        have hgcd2 : Nat.gcd Y (X % Y) = G := by rw [← HG.out, Nat.gcd_comm X Y, Nat.gcd_rec Y X, Nat.gcd_comm]
        have hval2 := valAt_is (w := w6) (v := .slice ro rk rc) ⟨ro, rk, rc, rfl, hr6.sl⟩
        have hny := HOY.out
        obtain ⟨LY, -, -, -, hly1, hly2, hly3⟩ := hny
        have HR := Lib.hid (show _ ∧ _ ∧ _ ∧ _ ∧ _ ∧ _ from ⟨hoy6, hr6', hneq, hml, hgcd2, hB6⟩)
        have HV2 := Lib.hid hval2
        clear hr6 hr6' hoy6 hB6 hneq hml hgcd2 hval2 hE6
        go_wp2
        go_roundw
        case rel => exact ⟨Y, X % Y, gy, mm + 2, cy, ro, rk, rc, rfl, rfl, HR.out.1, HR.out.2.1, HR.out.2.2.1, hBy, Nat.le_of_lt HR.out.2.2.2.1, HR.out.2.2.2.2.1, by omega, HR.out.2.2.2.2.2⟩
        case measure => rw [HVAL.out, HV2.out]; exact HR.out.2.2.2.1
      · have hbz : (b' != 0) = true := by simp [hb0]
        obtain ⟨LX, hbX, hwX, htX, hlX, hcX, hcX2⟩ := hox
        obtain ⟨LY, hbY, hwY, htY, hlY, hcY, hcY2⟩ := hoy
        have HT := Lib.hid (And.intro htX htY)
        have HB5 := Lib.hid hB5
        have HB0 := Lib.hid hb0
        clear hB5 hsx5 hsy5 htX htY hb0
        go_wp2_with fail
        refine (apply_any a' b' c' d' gx gy nx ny cx cy B LX LY W5 hbX hbY hgne hwX hwY hlX hlY hnn (by omega) (by omega) (by omega) HL.out.pairs.1 HL.out.pairs.2 hBx hBy).mono ?_
        rintro e w6 ⟨rfl, X', Y', e1, e2, k1, k2, hx6, hy6, hB6⟩
        have lx6 := k1.1
        have ly6 := k2.1
        have wx6 := k1.2.1
        have wy6 := k2.2.1
        obtain ⟨X1, Y1, hX1, hY1, hle, hg, hlt, -⟩ := lehmer_next HL.out HB0.out HT.out.1 HT.out.2 hnn hlX hlY k1 k2
        have s1 : Sl w6 (some ⟨gx, 0, none⟩) ny cx (X'.take ny) := (hx6.sl (n := X'.length) (cap := cx) wx6 rfl (by omega) (by omega)).take ny (by omega)
        have s2 : Sl w6 (some ⟨gy, 0, none⟩) ny cy (Y'.take ny) := (hy6.sl (n := Y'.length) (cap := cy) wy6 rfl (by omega) (by omega)).take ny (by omega)
        have hcapx : ny ≤ cx := by omega
        have HB6 := Lib.hid (Below.trans HB5.out hB6)
        have HXY := Lib.hid (show _ ∧ _ ∧ _ ∧ _ ∧ _ from ⟨hle, hg, hlt, hx6, hy6⟩)
        clear hbX hbY k1 k2 hle hg hlt hx6 hy6 hB6 q0 q1 q2 q3
        go_wp2_with fail
        refine (trim_sl _ _ _ _ w6 s1).mono ?_
        rintro e w7 ⟨i1, rfl, t1, rfl⟩
        go_wp2_with fail
        refine (trim_sl _ _ _ _ w6 s2).mono ?_
        rintro e w7 ⟨i2, rfl, t2, rfl⟩
        have o1 := Owns.trim HXY.out.2.2.2.1 wx6 (m := ny) (by omega) t1.len (ca := cx) (by omega) (by omega)
        have o2 := Owns.trim HXY.out.2.2.2.2 wy6 (m := ny) (by omega) t2.len (ca := cy) (by omega) (by omega)
        rw [hX1] at o1
        rw [hY1] at o2
        have hval2 := valAt_is (w := w6) (v := .slice (some ⟨gy, 0, none⟩) i2 cy) ⟨_, i2, cy, rfl, o2.sl⟩
        have hi1 : i1 ≤ ny := by
          have h := (limbs_len_le (num (X'.take ny)).toNat ny).2 (by
            have h := num_lt (wx6.take ny)
            rw [List.length_take, Nat.min_eq_left (by omega)] at h
            have h0 := num_nonneg (wx6.take ny)
            have h2 : ((4294967296 ^ ny : Nat) : Int) = 4294967296 ^ ny := by rw [Int.natCast_pow]; rfl
            rw [← h2] at h
            omega)
          rw [t1.len] at h
          exact h
        have HO := Lib.hid (And.intro o1 o2)
        have HV2 := Lib.hid hval2
        clear s1 s2 t1 t2 hX1 hY1 o1 o2 hval2
        go_wp2
        go_roundw
        case rel => exact ⟨X1, Y1, gx, i1, cx, some ⟨gy, 0, none⟩, i2, cy, rfl, rfl, HO.out.1, Or.inr ⟨gy, rfl, hBy, HO.out.2⟩, Or.inl (by intro e; injection e with e; injection e with e; omega), hBx, HXY.out.1, by rw [HXY.out.2.1]; exact HG.out, by omega, HB6.out⟩
        case measure => rw [HVAL.out, HV2.out]; exact HXY.out.2.2.1
    · by_cases h0 : ny = 0
      · subst h0
        have hy0 : Y = 0 := limbs_inj ((List.eq_nil_of_length_eq_zero hsy.len).trans limbs_zero.symm)
        subst hy0
        have HSX := Lib.hid hsx
        clear hsx hsy
        go_wp2
        go_ret
        refine ⟨_, nx, cx, rfl, ?_, by rw [HBe.out]; exact HB.out⟩
        rw [← HG.out, Nat.gcd_zero_right]
        exact HSX.out
      · have hn0 : (((ny : Nat) : Int) == 0) = false := by apply beq_eq_false_iff_ne.2; omega
        have hy0 := len_pos hsy (by omega)
        have hyl : Y < 18446744073709551616 := by
          have h := (limbs_len_le Y 2).1 (by rw [hsy.len]; omega)
          omega
        have HSX := Lib.hid hsx
        have HSY := Lib.hid hsy
        go_wp2_with fail
        refine (div_says X Y hy0 _ _ _ _ _ _ wr hsx hsy (by omega) (by omega)).mono ?_
        rintro e w4 ⟨qo, qk, qc, ro, rk, rc, rfl, hq4, hr4, hE4⟩
        have hsy4 := hsy.below hE4
        have hB4 := Below.trans HB.out (hE4.mono (by omega))
        have hz4 := Below.size hE4
        have hrl : X % Y < 18446744073709551616 := Nat.lt_trans (Nat.mod_lt _ (by omega)) hyl
        have hgcd2 : Nat.gcd Y (X % Y) = G := by rw [← HG.out, Nat.gcd_comm X Y, Nat.gcd_rec Y X, Nat.gcd_comm]
        generalize X % Y = R at *
        clear hq4 hE4 hsx hsy
        go_wp2_with fail
        refine (bits0_any Y _ _ _ w4 hsy4 hyl).mono ?_
        rintro e w5 ⟨rfl, hE5⟩
        have hr5 := hr4.below hE5
        have hB5 := Below.trans hB4 (hE5.mono (by omega))
        have hz5 := Below.size hE5
        go_wp2_with fail
        refine (bits0_any R _ _ _ w5 hr5 hrl).mono ?_
        rintro e w6 ⟨rfl, hE6⟩
        have hB6 := Below.trans hB5 (hE6.mono (by omega))
        have hz6 := Below.size hE6
        go_wp2_with fail
        refine (wordGcd_any Y R w6 hyl hrl).mono ?_
        rintro e w7 ⟨rfl, hE7⟩
        rw [hgcd2]
        have hB7 := Below.trans hB6 (Below.mono hE7 (by omega))
        have hz7 := Below.size hE7
        have hGl : G < 18446744073709551616 := by
          rw [← hgcd2]
          exact Nat.lt_of_le_of_lt (Nat.gcd_le_left R (by omega)) hyl
        clear hE5 hE6 hE7 hr4 hr5 hsy4 hB4 hB5 hB6
        go_wp2_with fail
        refine (fromWord_any (G : Int) w7 (by omega) (by omega)).mono ?_
        rintro e w8 ⟨so, sk, sc, rfl, hs8, hE8⟩
        rw [Int.toNat_natCast] at hs8
        have hB8 := Below.trans hB7 (hE8.mono (by omega))
        clear hB7 hE8
        have HB8 := Lib.hid hB8
        have HS8 := Lib.hid hs8
        clear hB8 hs8
        go_wp2
        go_ret
        exact ⟨so, sk, sc, rfl, HS8.out, by rw [HBe.out]; exact HB8.out⟩

/-- the greatest common divisor of any two magnitudes -/
theorem common_any (a b : Nat) (ao bo : Option Addr) (n m ca cb : Nat) (w : World) (ha : Sl w ao n ca (limbs a)) (hb : Sl w bo m cb (limbs b)) (hn : n ≤ 100000000) (hm : m ≤ 100000000) :
    Calls Tryz.prog 90 #[.slice ao n ca, .slice bo m cb] w fun e w' => ∃ ro k rc, e = .returned (.slice ro k rc) ∧ Sl w' ro k rc (limbs (Nat.gcd a b)) ∧ Below w.heap.size w w' := by
  rcases Nat.lt_or_ge a b with h | h
  · exact common_lt a b ao bo n m ca cb w ha hb hn hm h
  · exact common_ge a b ao bo n m ca cb w ha hb hn hm h
end Go.Proofs.YtlpclahlolhjfaaGreatDoor

namespace Go.Proofs.YtlpclahlolhjfaaGreatDoor
open Go.RowKit

set_option maxRecDepth 100000 in
set_option maxHeartbeats 4000000 in
theorem gcd_any (nb mb : Bool) (ao : Option Addr) (n ca : Nat) (bo : Option Addr) (m cb : Nat) (x y : Int) (w : World) (ha : Bg w nb ao n ca x) (hb : Bg w mb bo m cb y) (hn : n ≤ 100000000) (hm : m ≤ 100000000) :
    Calls Tryz.prog 45 #[.agg #[.bool nb, .slice ao n ca], .agg #[.bool mb, .slice bo m cb]] w fun e w' => ∃ nr ro k cr, e = .returned (.agg #[.bool nr, .slice ro k cr]) ∧ Bn w' nr ro k cr ((Nat.gcd x.natAbs y.natAbs : Nat) : Int) ∧ Below w.heap.size w w' := by
  obtain ⟨⟨zs, hs, hx⟩, hsm⟩ := ha
  obtain ⟨⟨ys, hu, hy⟩, hum⟩ := hb
  have ex : (num zs).toNat = x.natAbs := by rw [hx, sgd_natAbs hs.wf]
  have ey : (num ys).toNat = y.natAbs := by rw [hy, sgd_natAbs hu.wf]
  rw [← ex, ← ey]
  clear hx hy ex ey
  go_enter Tryz.func45, Tryz.ntmps45
  go_wp2_with fail
  obtain ⟨W, hW, hB, hbx, hby, hrx, hz⟩ := boxes2 w nb ao n ca mb bo m cb
  rw [← hW]
  clear hW
  have hs0 := hs.below hB
  have hu0 := hu.below hB
  generalize hBe : w.heap.size = B at *
  have HBe := Lib.hid hBe; clear hBe
  have hBelow := Lib.hid hB
  clear hs hu hB
  obtain ⟨k1, hk1, hs1, ht1⟩ := trim_at _ _ _ _ _ hs0
  obtain ⟨k2, hk2, hu1, ht2⟩ := trim_at _ _ _ _ _ hu0
  obtain ⟨a, hxa⟩ : ∃ a, (num zs).toNat = a := ⟨_, rfl⟩
  obtain ⟨b, hyb⟩ : ∃ b, (num ys).toNat = b := ⟨_, rfl⟩
  rw [hxa] at hs1
  rw [hyb] at hu1
  have GAB := Lib.hid (show (((num zs).toNat.gcd (num ys).toNat : Nat) : Int) = ((Nat.gcd a b : Nat) : Int) by rw [hxa, hyb])
  clear hxa hyb
  have HT1 := Lib.hid ht1; clear ht1
  have HT2 := Lib.hid ht2; clear ht2
  have k0 := hbx.c0
  have k1' := hbx.c1
  have l0 := hby.c0
  have l1' := hby.c1
  go_region_held3 (fun w' => w'.cell? ⟨B, 0, none⟩ = some (.bool nb) ∧ w'.cell? ⟨B, 1, none⟩ = some (.slice ao n ca) ∧ w'.cell? ⟨B + 1, 0, none⟩ = some (.bool mb) ∧ w'.cell? ⟨B + 1, 1, none⟩ = some (.slice bo m cb))
    (first | exact ⟨k0, k1', l0, l1'⟩ | exact ⟨x2.c0, x2.c1, v2.c0, v2.c1⟩ | exact ⟨x3.c0, x3.c1, v3.c0, v3.c1⟩ | (refine ⟨?_, ?_, ?_, ?_⟩ <;> go_simp))
    (first
      | (go_at_call 57; first | ((with_reducible refine (HT1.out _ (by exact hs0.drew)).mono ?_); rintro e w1 ⟨rfl, rfl⟩) | ((with_reducible refine (HT2.out _ (by exact hu0.drew)).mono ?_); rintro e w1 ⟨rfl, rfl⟩))
      | (go_at_call 90; refine (common_any _ _ _ _ _ _ _ _ _ (by exact hs1.drew) (by exact hu1.drew) (by omega) (by omega)).mono ?_; rintro e w2 ⟨ro, k, cr, rfl, hp, hw2⟩; have x2 := hbx.drew.below hw2; have v2 := hby.drew.below hw2; have y2 := hrx.drew.below hw2)
      | (go_at_call 55; refine (signed_any _ _ _ _ _ _ (by exact hp)).mono ?_; rintro e w3 ⟨ro', cr', rfl, hs3, hw3⟩; have x3 := x2.below hw3; have v3 := v2.below hw3; have y3 := y2.below hw3; have q0 := y3.c0; have q1 := y3.c1; have q2 := y3.f 0; have q3 := y3.f 1; have e0 := x3.c0; have e1 := x3.c1; have e2 := v3.c0; have e3 := v3.c1))
  have z3 := y3.stored (false && decide (0 < k)) ro' k cr'
  have z0 := z3.c0
  have z1 := z3.c1
  simp only [Bool.false_and] at z0 z1
  go_wp2
  refine bodyPost_ret (v := .agg #[.bool (false && decide (0 < k)), .slice ro' k cr']) (by simp [results, Tryz.results45, go_sem, z0, z1]) rfl ⟨_, ro', k, cr', rfl, ?_, ?_⟩
  · exact bn_of (nb := false) (hs3.only_box y3 (only_set2 _ _ _ _)) rfl (by rw [GAB.out]; rfl)
  · obtain ⟨b1, l1⟩ := bnext hBelow.out (by omega) (Below.refl _ W).drew
    obtain ⟨b2, l2⟩ := bnext b1 l1 hw2
    obtain ⟨b3, l3⟩ := bnext b2 l2 hw3
    rw [HBe.out]
    exact b3.trans ((only_set2 _ _ _ _).below (by omega))
end Go.Proofs.YtlpclahlolhjfaaGreatDoor
