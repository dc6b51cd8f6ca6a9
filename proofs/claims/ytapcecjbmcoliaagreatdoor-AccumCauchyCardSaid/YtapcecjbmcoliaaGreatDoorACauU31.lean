import Derived.Test.YtapcecjbmcoliaaGreatDoorACauU12
import Derived.Test.YtapcecjbmcoliaaGreatDoorACauU8
import Derived.Test.YtapcecjbmcoliaaGreatDoorACauU13
namespace Go.Proofs.YtapcecjbmcoliaaGreatDoor
open Go.RowKit

theorem lead_down (X r : Nat) : X / 4294967296 ^ r = X / 4294967296 ^ (r + 1) * 4294967296 + X / 4294967296 ^ r % 4294967296 := by
  rw [Nat.pow_succ, ← Nat.div_div_eq_div_mul]
  have := Nat.div_add_mod (X / 4294967296 ^ r) 4294967296
  omega
theorem or_add32 {a b : Nat} (hb : b < 4294967296) (hl : a * 4294967296 + b < 18446744073709551616) : bits BinOp.or IntKind.u64 ((a * 4294967296 : Nat) : Int) (b : Int) = ((a * 4294967296 + b : Nat) : Int) := or_add (a := a) (b := b) (k := 32) hb hl
theorem wrap32 (a : Nat) : IntKind.u64.wrap ((a : Int) * 4294967296) = ((a % 4294967296 * 4294967296 : Nat) : Int) := by rw [IntKind.wrap_u64]; omega
theorem wrap32s {a : Nat} (h : a < 4294967296) : IntKind.u64.wrap ((a : Int) * 4294967296) = ((a * 4294967296 : Nat) : Int) := by rw [IntKind.wrap_u64]; omega
theorem lead_step {hi lo v x : Nat} (hv : hi * 18446744073709551616 + lo = v) (hl : lo < 18446744073709551616) (hh : hi < 4294967296) (hx : x < 4294967296) :
    (hi * 4294967296 + lo / 4294967296) * 18446744073709551616 + (lo * 4294967296 % 18446744073709551616 + x) = v * 4294967296 + x ∧ hi * 4294967296 + lo / 4294967296 < 18446744073709551616 ∧ lo / 4294967296 < 4294967296 ∧ hi * 4294967296 < 18446744073709551616 ∧ lo * 4294967296 % 18446744073709551616 = lo % 4294967296 * 4294967296 ∧ lo % 4294967296 * 4294967296 + x < 18446744073709551616 := by
  omega

theorem lead_odd {X : Nat} (hX : X % 2 = 1) (j : Nat) (hj : j ≠ 0) : X % 2 ^ j ≠ 0 := by
  intro h0
  have h1 := Nat.dvd_of_mod_eq_zero h0
  have h2 : 2 ∣ 2 ^ j := ⟨2 ^ (j - 1), by rw [← Nat.pow_succ']; congr 1; omega⟩
  have := Nat.mod_eq_zero_of_dvd (Nat.dvd_trans h2 h1)
  omega

theorem lead_free {hi : Nat} (h0 : 4294967296 ≤ hi) (h1 : hi < 18446744073709551616) : ∃ k : Nat, k < 32 ∧ 2 ^ (63 - k) ≤ hi ∧ hi < 2 ^ (64 - k) := by
  have hne : hi ≠ 0 := by omega
  have l1 := Nat.log2_self_le hne
  have l2 := @Nat.lt_log2_self hi
  have a1 : Nat.log2 hi < 64 := (Nat.log2_lt hne).2 h1
  have a2 : 32 ≤ Nat.log2 hi := (Nat.le_log2 hne).2 h0
  refine ⟨63 - Nat.log2 hi, by omega, ?_, ?_⟩
  · rw [show 63 - (63 - Nat.log2 hi) = Nat.log2 hi by omega]; exact l1
  · rw [show 64 - (63 - Nat.log2 hi) = Nat.log2 hi + 1 by omega]; exact l2

theorem NBox.stored13 {w : World} {g : Nat} {hi lo e : Int} {t : Bool} (h : NBox w g hi lo e t) (lo' : Int) (t' : Bool) : NBox ((w.setCell ⟨g, 1, none⟩ (.int .u64 lo')).setCell ⟨g, 3, none⟩ (.bool t')) g hi lo' e t' := by
  unfold NBox at h ⊢
  simp [World.setCell, Array.getElem?_modify, h]
theorem only_set13 (w : World) (g : Nat) (u v : Value) : Only g w ((w.setCell ⟨g, 1, none⟩ u).setCell ⟨g, 3, none⟩ v) := ((Only.refl g w).setCell _ _).setCell _ _

/-- the bits behind the first ones -/
theorem lead_tail {X r hi lo k : Nat} (hv : hi * 18446744073709551616 + lo = X / 4294967296 ^ (r + 1)) (hl : lo < 18446744073709551616) (hk : k < 32) (hb : hi < 2 ^ (64 - k)) :
    (hi * 2 ^ k + lo / 2 ^ (64 - k)) * 18446744073709551616 + (lo * 2 ^ k % 18446744073709551616 + X / 4294967296 ^ r % 4294967296 / 2 ^ (32 - k)) = X / 2 ^ (32 * (r + 1) - k) ∧ X / 4294967296 ^ r % 4294967296 / 2 ^ (32 - k) < 2 ^ k ∧ ∃ q, lo * 2 ^ k % 18446744073709551616 = q * 2 ^ k ∧ q * 2 ^ k + X / 4294967296 ^ r % 4294967296 / 2 ^ (32 - k) < 18446744073709551616 := by
  obtain ⟨w1, w2, w3, w4⟩ := norm_words hl (show k ≤ 64 by omega) hb
  have hx : X / 4294967296 ^ r % 4294967296 < 4294967296 := Nat.mod_lt _ (by omega)
  have hd := lead_down X r
  generalize X / 4294967296 ^ r % 4294967296 = x at *
  have hp : 0 < 2 ^ (32 - k) := Nat.pow_pos (by omega)
  have e32 : (4294967296 : Nat) = 2 ^ k * 2 ^ (32 - k) := by rw [← Nat.pow_add, show k + (32 - k) = 32 by omega]
  have hq : x / 2 ^ (32 - k) < 2 ^ k := by rw [Nat.div_lt_iff_lt_mul hp, ← e32]; exact hx
  have e1 : X / 2 ^ (32 * (r + 1) - k) = X / 4294967296 ^ r / 2 ^ (32 - k) := by
    rw [Nat.div_div_eq_div_mul, show (4294967296 : Nat) ^ r = 2 ^ (32 * r) by rw [Nat.pow_mul], ← Nat.pow_add, show 32 * r + (32 - k) = 32 * (r + 1) - k by omega]
  have e2 : (X / 4294967296 ^ (r + 1) * 4294967296 + x) / 2 ^ (32 - k) = X / 4294967296 ^ (r + 1) * 2 ^ k + x / 2 ^ (32 - k) := by
    rw [e32, ← Nat.mul_assoc, Nat.add_comm, Nat.add_mul_div_right _ _ hp, Nat.add_comm]
  have e64 : (18446744073709551616 : Nat) = 2 ^ (64 - k) * 2 ^ k := by rw [← Nat.pow_add, show 64 - k + k = 64 by omega]
  have e3 : lo * 2 ^ k % 18446744073709551616 = lo % 2 ^ (64 - k) * 2 ^ k := by
    rw [e64, Nat.mul_mod_mul_right]
  have e4 : lo % 2 ^ (64 - k) < 2 ^ (64 - k) := Nat.mod_lt _ (Nat.pow_pos (by omega))
  refine ⟨?_, hq, lo % 2 ^ (64 - k), e3, ?_⟩
  · rw [e1, hd, e2, ← Nat.add_assoc, w1, hv]
  · have := Nat.mul_le_mul_right (2 ^ k) (show lo % 2 ^ (64 - k) + 1 ≤ 2 ^ (64 - k) from e4)
    rw [← e64, Nat.add_mul, Nat.one_mul] at this
    omega

set_option maxRecDepth 100000 in
set_option maxHeartbeats 4000000 in
theorem flead_any (ao : Option Addr) (n ca X : Nat) (e : Int) (w : World) (h : Sl w ao n ca (limbs X)) (hX : X % 2 = 1) (hn : n ≤ 100000) (he0 : -100000000 ≤ e) (he1 : e ≤ 100000000) :
    Calls Tryz.prog 94 #[.slice ao n ca, .int .i64 e] w fun r w' => ∃ (H L : Nat) (E : Int) (T : Bool) (j : Nat), r = .returned (.agg #[.int .u64 (H : Int), .int .u64 (L : Int), .int .i64 E, .bool T]) ∧
      H < 18446744073709551616 ∧ L < 18446744073709551616 ∧ H * 18446744073709551616 + L = X / 2 ^ j ∧ H * 18446744073709551616 + L ≠ 0 ∧ E = e + j ∧ T = decide (X % 2 ^ j ≠ 0) ∧ (T = true → 2 ^ 53 ≤ H * 18446744073709551616 + L) ∧ j ≤ 3200000 ∧ Ext w w' := by
  have hlen := h.len
  have hXn : X / 4294967296 ^ n = 0 := by
    refine Nat.div_eq_of_lt ((limbs_len_le X n).1 (by omega))
  have hwf : ∀ r, r < n → (limbs X).getD r 0 = ((X / 4294967296 ^ r % 4294967296 : Nat) : Int) := fun r _ => limbs_at X r
  have hcap := h.cap
  have HS := Lib.hid h
  have HXO := Lib.hid hX
  have HW := Lib.hid hwf
  clear hwf hX
  go_enter Tryz.func94, Tryz.ntmps94
  go_upto_region 2 with fail
  obtain ⟨W, hW, hB, hr, hx, hz⟩ := boxes_nn w 0 0 0 false 0 0 0 false
  rw [← hW]
  clear hW
  have HBB := Lib.hid (show ∀ b off, ao = some ⟨b, off, none⟩ → 0 < n → b < w.heap.size from fun b off e h0 => by
    obtain ⟨b', off', e', hc⟩ := HS.out.cells (by rw [hlen]; exact h0)
    rw [e] at e'
    obtain ⟨rfl, rfl⟩ : b = b' ∧ off = off' := by simpa using e'
    exact lt_of_cell (hc 0 (by rw [hlen]; exact h0)))
  have HSW := Lib.hid (show ∀ wx, Below w.heap.size w wx → Sl wx ao n ca (limbs X) from fun wx hb => HS.out.below hb)
  clear h
  generalize hBe : w.heap.size = B at *
  have HBe := Lib.hid hBe
  clear hBe HS
  go_upto_region 3 with fail
  go_loopw [6] (fun rest wx => ∃ (r hi lo : Nat), rest = .int .i64 (r : Int) ∧ r ≤ n ∧ hi < 18446744073709551616 ∧ lo < 18446744073709551616 ∧ RowKit.Hid (hi * 18446744073709551616 + lo = X / 4294967296 ^ r) ∧ NBox wx (B + 1) (hi : Int) (lo : Int) 0 false ∧ NBox wx B 0 0 0 false ∧ Below B w wx) (fun rest _ => (intOf rest).toNat)
  case atStart => exact ⟨n, 0, 0, rfl, Nat.le_refl _, by omega, by omega, Lib.hid (by rw [hXn]), hx, hr, hB⟩
  case round =>
    clear hx hr hB
    obtain ⟨r, hi, lo, rfl, hrn, hh, hl, HV, hx, hr, hB⟩ := hrel
    have c0 := hx.c0
    have c1 := hx.c1
    have c2 := hx.c2
    have c3 := hx.c3
    have g0 := hx.f 0
    have g1 := hx.f 1
    have g2 := hx.f 2
    have g3 := hx.f 3
    by_cases h0 : 0 < r
    · obtain ⟨m, rfl⟩ : ∃ m, r = m + 1 := ⟨r - 1, by omega⟩
      obtain ⟨b, off, rfl, hc⟩ := (HSW.out wr hB).cells (by rw [hlen]; omega)
      have hcell := hc m (by rw [hlen]; omega)
      rw [HW.out m (by omega)] at hcell
      have hcx : ∀ wx, Below B w wx → wx.cell? ⟨b, off + m, none⟩ = some (.int .u32 ((X / 4294967296 ^ m % 4294967296 : Nat) : Int)) := fun wx hb => by
        obtain ⟨b', off', e', hc'⟩ := (HSW.out wx hb).cells (by rw [hlen]; omega)
        obtain ⟨rfl, rfl⟩ : b = b' ∧ off = off' := by simpa using e'
        rw [← HW.out m (by omega)]
        exact hc' m (by rw [hlen]; omega)
      have hxm : X / 4294967296 ^ m % 4294967296 < 4294967296 := Nat.mod_lt _ (by omega)
      have HD := Lib.hid (lead_down X m)
      have HLT := fun k (hk : k < 32) (hb : hi < 2 ^ (64 - k)) => lead_tail (r := m) HV hl hk hb
      have HXT := Lib.hid (lead_odd (X := X) HXO.out)
      generalize X / 4294967296 ^ m % 4294967296 = x at *
      clear hc
      have hbb0 : b < B := HBB.out b off rfl (by omega)
      have hbb1 : B + 1 ≠ b := by omega
      have hbb2 : b ≠ B + 1 := by omega
      by_cases hs : hi < 4294967296
      · obtain ⟨p1, p2, p3, p4, p5, p6⟩ := lead_step (x := x) rfl hl hs hxm
        have HP1 := Lib.hid p1
        have t0 : ((hi : Int) / 4294967296 == 0) = true := by rw [beq_iff_eq]; omega
        have s1 := wrap32s hs
        have s2 : (lo : Int) / 4294967296 = ((lo / 4294967296 : Nat) : Int) := by omega
        have s3 := or_add32 (a := hi) (b := lo / 4294967296) p3 p2
        have s4 := wrap32 lo
        have s5 := or_add32 (a := lo % 4294967296) (b := x) hxm p6
        clear p1 HLT
        rw [p5] at HP1
        clear p5
        obtain ⟨hi2, hhi2⟩ : ∃ hi2, hi * 4294967296 + lo / 4294967296 = hi2 := ⟨_, rfl⟩
        obtain ⟨lo2, hlo2⟩ : ∃ lo2, lo % 4294967296 * 4294967296 + x = lo2 := ⟨_, rfl⟩
        rw [hhi2] at HP1 s3 p2
        rw [hlo2] at HP1 s5 p6
        obtain ⟨A, hA⟩ : ∃ A, hi * 4294967296 = A := ⟨_, rfl⟩
        obtain ⟨C, hC⟩ : ∃ C, lo % 4294967296 * 4294967296 = C := ⟨_, rfl⟩
        obtain ⟨E, hE⟩ : ∃ E, lo / 4294967296 = E := ⟨_, rfl⟩
        rw [hA] at s1 s3
        rw [hC] at s4 s5
        rw [hE] at s2 s3
        clear hhi2 hlo2 hA hC hE p3 p4
        go_wp2
        go_region
        go_wp2
        go_roundw
        case rel =>
          have ho := only_set2 wr (B + 1) (.int .u64 (hi2 : Int)) (.int .u64 (lo2 : Int))
          exact ⟨m, hi2, lo2, by go_num, by omega, p2, p6, Lib.hid (by rw [HP1.out, HV.out, ← HD.out]), (hx.stored01 hi2 lo2).drew, hr.only ho.drew (by omega), hB.trans (ho.drew.below (B := B) (by omega))⟩
        case measure => simp [intOf]
      · have t0 : ((hi : Int) / 4294967296 == 0) = false := by rw [beq_eq_false_iff_ne]; omega
        obtain ⟨k, hk, hk0, hk1⟩ : ∃ k : Nat, k < 32 ∧ 2 ^ (63 - k) ≤ hi ∧ hi < 2 ^ (64 - k) := lead_free (by omega) hh
        obtain ⟨p1, p2, q, p3, p4⟩ := HLT k hk hk1
        obtain ⟨w1, w2, w3, w4⟩ := norm_words hl (show k ≤ 64 by omega) hk1
        have hge : 18446744073709551616 ≤ (hi * 2 ^ k + lo / 2 ^ (64 - k)) * 18446744073709551616 := by
          have h3 : hi ≤ hi * 2 ^ k := Nat.le_mul_of_pos_right _ (Nat.pow_pos (by omega))
          have h4 : 1 ≤ hi * 2 ^ k + lo / 2 ^ (64 - k) := Nat.le_trans (by omega) (Nat.le_add_right _ _)
          omega
        have CN := Lib.hid (fnormal_hi hi lo k (e + ((m : Int) + 1) * 32) false hk0 hk1 (by omega) hl (by omega) (by omega))
        have CL := Lib.hid (lz_any hk0 hk1 (by omega))
        have s3 := or_add p2 p4
        rw [p3] at p1 CN
        have s1 : (x : Int) / 2 ^ (32 - k) = ((x / 2 ^ (32 - k) : Nat) : Int) := (cast_divpow _ _).symm
        have s2 : (32 - (k : Int)) = ((32 - k : Nat) : Int) := by omega
        have HE := Lib.hid (show e + ((m : Int) + 1) * 32 - (k : Int) = e + ((32 * (m + 1) - k : Nat) : Int) by omega)
        have HP1 := Lib.hid p1
        obtain ⟨Y, hY⟩ : ∃ Y, hi * 2 ^ k + lo / 2 ^ (64 - k) = Y := ⟨_, rfl⟩
        obtain ⟨x2, hx2⟩ : ∃ x2, x / 2 ^ (32 - k) = x2 := ⟨_, rfl⟩
        obtain ⟨Z, hZ⟩ : ∃ Z, q * 2 ^ k = Z := ⟨_, rfl⟩
        rw [hY] at HP1 w2 CN hge
        rw [hx2] at s1 s3 p4 HP1
        rw [hZ] at s3 p4 HP1 CN
        have s6 : IntKind.u64.wrap (x2 : Int) = (x2 : Int) := wrap_nat (by omega)
        obtain ⟨Z2, hZ2⟩ : ∃ Z2, Z + x2 = Z2 := ⟨_, rfl⟩
        rw [hZ2] at s3 HP1 p4
        clear hY hx2 hZ hZ2 p1 p2 p3 w1 w3 w4 HLT hk0 hk1
        have hE0 : -9223372036854775808 ≤ e + ((m : Int) + 1) * 32 := by omega
        have hE2 : e + ((m : Int) + 1) * 32 ≤ 9223372036854775807 := by omega
        obtain ⟨E1, hE1⟩ : ∃ E1 : Int, e + ((m : Int) + 1) * 32 = E1 := ⟨_, rfl⟩
        go_upto_region 8 with fail
        rw [hE1] at CN HE hE0 hE2
        clear hE1
        have x1 := hx.stored2 E1
        have r1 := hr.only (only_set1 wr (B + 1) 2 (.int .i64 E1)) (by omega)
        have b1 := hB.trans ((only_set1 wr (B + 1) 2 (.int .i64 E1)).below (B := B) (by omega))
        generalize wr.setCell ⟨B + 1, 2, none⟩ (.int .i64 E1) = W3 at *
        clear c0 c1 c2 c3 g0 g1 g2 g3 hx hr hB hcell
        have c0 := x1.c0
        have c1 := x1.c1
        have c2 := x1.c2
        have c3 := x1.c3
        have g0 := x1.f 0
        have g1 := x1.f 1
        have g2 := x1.f 2
        have g3 := x1.f 3
        go_wp2_with fail
        refine (CL.out _).mono ?_
        rintro r2 w2 ⟨rfl, rfl⟩
        go_wp2_with fail
        refine (CN.out _).mono ?_
        rintro r2 w4 ⟨rfl, hE4⟩
        have hlt := x1.lt
        have x2 := x1.below hE4
        have r2 := r1.below hE4
        have b2 : Below B w w4 := b1.trans (Below.mono hE4 (by omega))
        clear c0 c1 c2 c3 g0 g1 g2 g3 x1 r1 b1 hE4
        have c0 := x2.c0
        have c1 := x2.c1
        have c2 := x2.c2
        have c3 := x2.c3
        have g0 := x2.f 0
        have g1 := x2.f 1
        have g2 := x2.f 2
        have g3 := x2.f 3
        obtain ⟨E2, hE2'⟩ : ∃ E2 : Int, E1 - (k : Int) = E2 := ⟨_, rfl⟩
        rw [hE2'] at HE
        go_upto_region 11 with fail
        clear hE2'
        have x3 := x2.stored Y Z E2 false
        have ho := only_nset4 w4 (B + 1) (.int .u64 Y) (.int .u64 Z) (.int .i64 E2) (.bool false)
        have r3 := r2.only ho (by omega)
        have b3 := b2.trans (ho.below (B := B) (by omega))
        generalize (((w4.setCell ⟨B + 1, 0, none⟩ (.int .u64 Y)).setCell ⟨B + 1, 1, none⟩ (.int .u64 Z)).setCell ⟨B + 1, 2, none⟩ (.int .i64 E2)).setCell ⟨B + 1, 3, none⟩ (.bool false) = W5 at *
        clear c0 c1 c2 c3 g0 g1 g2 g3 x2 r2 b2 ho
        have hcell := hcx W5 b3
        have c0 := x3.c0
        have c1 := x3.c1
        have c2 := x3.c2
        have c3 := x3.c3
        have g0 := x3.f 0
        have g1 := x3.f 1
        have g2 := x3.f 2
        have g3 := x3.f 3
        go_region
        go_upto_region 13 with fail
        have hh := only_set13 W5 (B + 1) (.int .u64 (Z2 : Int)) (.bool true)
        have x4 := (x3.stored13 (Z2 : Int) true).drew
        have r4 := (r3.only hh (by omega)).drew
        have b4 := (b3.trans (hh.below (B := B) (by omega))).drew
        clear x3 r3 b3 hcell hh
        generalize ((W5.setCell ⟨B + 1, 1, none⟩ (.int .u64 (Z2 : Int))).setCell ⟨B + 1, 3, none⟩ (.bool true)).drew = W6 at *
        clear c0 c1 c2 c3 g0 g1 g2 g3
        have c0 := x4.c0
        have c1 := x4.c1
        have c2 := x4.c2
        have c3 := x4.c3
        have q0 := r4.c0
        have q1 := r4.c1
        have q2 := r4.c2
        have q3 := r4.c3
        have p0 := r4.f 0
        have p1 := r4.f 1
        have p2 := r4.f 2
        have p3 := r4.f 3
        have z := r4.stored (Y : Int) (Z2 : Int) E2 true 
        have z0 := z.c0
        have z1 := z.c1
        have z2 := z.c2
        have z3 := z.c3
        have B4 := Lib.hid (b4.trans ((only_nset4 W6 B (.int .u64 (Y : Int)) (.int .u64 (Z2 : Int)) (.int .i64 E2) (.bool true)).below (B := B) (Nat.le_refl _)))
        clear z x4 r4 b4
        go_wp2
        refine bodyPost_ret (v := .agg #[.int .u64 (Y : Int), .int .u64 (Z2 : Int), .int .i64 E2, .bool true]) (by simp [results, Tryz.results94, go_sem, z0, z1, z2, z3]) rfl ?_
        refine ⟨Y, Z2, E2, true, 32 * (m + 1) - k, rfl, w2, p4, HP1.out, ?_, HE.out, ?_, ?_, by omega, ?_⟩
        · omega
        · exact (decide_eq_true (HXT.out _ (by omega))).symm
        · intro _
          exact Nat.le_trans (by decide) (Nat.le_trans hge (Nat.le_add_right _ _))
        · show Below _ _ _
          rw [HBe.out]
          exact B4.out
    · obtain rfl : r = 0 := by omega
      have hV : hi * 18446744073709551616 + lo = X := by have := HV.out; rwa [Nat.pow_zero, Nat.div_one] at this
      go_upto_region 13 with fail
      have x4 := hx.stored2 e
      have r4 := hr.only (only_set1 wr (B + 1) 2 (.int .i64 e)) (by omega)
      have b4 := hB.trans ((only_set1 wr (B + 1) 2 (.int .i64 e)).below (B := B) (by omega))
      clear hx hr hB
      have HV2 := Lib.hid hV
      clear hV
      generalize wr.setCell ⟨B + 1, 2, none⟩ (.int .i64 e) = W6 at *
      clear c0 c1 c2 c3 g0 g1 g2 g3
      have c0 := x4.c0
      have c1 := x4.c1
      have c2 := x4.c2
      have c3 := x4.c3
      have q0 := r4.c0
      have q1 := r4.c1
      have q2 := r4.c2
      have q3 := r4.c3
      have p0 := r4.f 0
      have p1 := r4.f 1
      have p2 := r4.f 2
      have p3 := r4.f 3
      have z := r4.stored (hi : Int) (lo : Int) e false 
      have z0 := z.c0
      have z1 := z.c1
      have z2 := z.c2
      have z3 := z.c3
      have B4 := Lib.hid (b4.trans ((only_nset4 W6 B (.int .u64 (hi : Int)) (.int .u64 (lo : Int)) (.int .i64 e) (.bool false)).below (B := B) (Nat.le_refl _)))
      clear z x4 r4 b4
      go_wp2
      refine bodyPost_ret (v := .agg #[.int .u64 (hi : Int), .int .u64 (lo : Int), .int .i64 e, .bool false]) (by simp [results, Tryz.results94, go_sem, z0, z1, z2, z3]) rfl ?_
      refine ⟨hi, lo, e, false, 0, rfl, hh, hl, by rw [HV2.out, Nat.pow_zero, Nat.div_one], ?_, by simp, by simp [Nat.mod_one], fun h => by (cases h), by omega, ?_⟩
      · rw [HV2.out]; have := HXO.out; omega
      · show Below _ _ _
        rw [HBe.out]
        exact B4.out
end Go.Proofs.YtapcecjbmcoliaaGreatDoor
