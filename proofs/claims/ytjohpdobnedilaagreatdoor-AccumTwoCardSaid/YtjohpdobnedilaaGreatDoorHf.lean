/- What leading does: the first 128 bits of a magnitude, and a tail. -/
import Derived.Test.YtjohpdobnedilaaGreatDoorHc
import Derived.Test.YtjohpdobnedilaaGreatDoorHd
import Derived.Test.YtjohpdobnedilaaGreatDoorGu
import Derived.Test.YtjohpdobnedilaaGreatDoorGj
import Derived.Test.YtjohpdobnedilaaGreatDoorGk
import Derived.Test.YtjohpdobnedilaaGreatDoorGl
import Derived.Test.YtjohpdobnedilaaGreatDoorGp
import Derived.Test.YtjohpdobnedilaaGreatDoorGb
namespace Go.Proofs.YtjohpdobnedilaaGreatDoor
open Go.RowKit

theorem lead_down (X r : Nat) : X / 4294967296 ^ r = X / 4294967296 ^ (r + 1) * 4294967296 + X / 4294967296 ^ r % 4294967296 := by
  rw [Nat.pow_succ, ← Nat.div_div_eq_div_mul]
  have := Nat.div_add_mod (X / 4294967296 ^ r) 4294967296
  omega
theorem or_add32 {a b : Nat} (hb : b < 4294967296) (hl : a * 4294967296 + b < 18446744073709551616) : bits BinOp.or IntKind.u64 ((a * 4294967296 : Nat) : Int) (b : Int) = ((a * 4294967296 + b : Nat) : Int) := or_add (a := a) (b := b) (k := 32) hb hl
theorem wrap32 (a : Nat) : IntKind.u64.wrap ((a : Int) * 4294967296) = ((a % 4294967296 * 4294967296 : Nat) : Int) := by rw [IntKind.wrap_u64]; omega
theorem wrap32s {a : Nat} (h : a < 4294967296) : IntKind.u64.wrap ((a : Int) * 4294967296) = ((a * 4294967296 : Nat) : Int) := by rw [IntKind.wrap_u64]; omega
theorem lead_step {hi lo v x : Nat} (hv : hi * 18446744073709551616 + lo = v) (hl : lo < 18446744073709551616) (hh : hi < 4294967296) (hx : x < 4294967296) :
    (hi * 4294967296 + lo / 4294967296) * 18446744073709551616 + (lo * 4294967296 % 18446744073709551616 + x) = v * 4294967296 + x ∧ hi * 4294967296 + lo / 4294967296 < 18446744073709551616 ∧ lo / 4294967296 < 4294967296 ∧ hi * 4294967296 < 18446744073709551616 ∧ lo * 4294967296 % 18446744073709551616 = lo % 4294967296 * 4294967296 ∧ lo % 4294967296 * 4294967296 + x < 18446744073709551616 := by
  omega

theorem lead_odd {X : Nat} (hX : X % 2 = 1) (j : Nat) (hj : j ≠ 0) : X % 2 ^ j ≠ 0 := by
  intro h0
  have h1 := Nat.dvd_of_mod_eq_zero h0
  have h2 : 2 ∣ 2 ^ j := ⟨2 ^ (j - 1), by rw [← Nat.pow_succ']; congr 1; omega⟩
  have := Nat.mod_eq_zero_of_dvd (Nat.dvd_trans h2 h1)
  omega

theorem lead_free {hi : Nat} (h0 : 4294967296 ≤ hi) (h1 : hi < 18446744073709551616) : ∃ k : Nat, k < 32 ∧ 2 ^ (63 - k) ≤ hi ∧ hi < 2 ^ (64 - k) := by
  have hne : hi ≠ 0 := by omega
  have l1 := Nat.log2_self_le hne
  have l2 := @Nat.lt_log2_self hi
  have a1 : Nat.log2 hi < 64 := (Nat.log2_lt hne).2 h1
  have a2 : 32 ≤ Nat.log2 hi := (Nat.le_log2 hne).2 h0
  refine ⟨63 - Nat.log2 hi, by omega, ?_, ?_⟩
  · rw [show 63 - (63 - Nat.log2 hi) = Nat.log2 hi by omega]; exact l1
  · rw [show 64 - (63 - Nat.log2 hi) = Nat.log2 hi + 1 by omega]; exact l2

theorem NBox.stored13 {w : World} {g : Nat} {hi lo e : Int} {t : Bool} (h : NBox w g hi lo e t) (lo' : Int) (t' : Bool) : NBox ((w.setCell ⟨g, 1, none⟩ (.int .u64 lo')).setCell ⟨g, 3, none⟩ (.bool t')) g hi lo' e t' := by
  unfold NBox at h ⊢
  simp [World.setCell, Array.getElem?_modify, h]
theorem only_set13 (w : World) (g : Nat) (u v : Value) : Only g w ((w.setCell ⟨g, 1, none⟩ u).setCell ⟨g, 3, none⟩ v) := ((Only.refl g w).setCell _ _).setCell _ _

/-- the bits behind the first ones -/
theorem lead_tail {X r hi lo k : Nat} (hv : hi * 18446744073709551616 + lo = X / 4294967296 ^ (r + 1)) (hl : lo < 18446744073709551616) (hk : k < 32) (hb : hi < 2 ^ (64 - k)) :
    (hi * 2 ^ k + lo / 2 ^ (64 - k)) * 18446744073709551616 + (lo * 2 ^ k % 18446744073709551616 + X / 4294967296 ^ r % 4294967296 / 2 ^ (32 - k)) = X / 2 ^ (32 * (r + 1) - k) ∧ X / 4294967296 ^ r % 4294967296 / 2 ^ (32 - k) < 2 ^ k ∧ ∃ q, lo * 2 ^ k % 18446744073709551616 = q * 2 ^ k ∧ q * 2 ^ k + X / 4294967296 ^ r % 4294967296 / 2 ^ (32 - k) < 18446744073709551616 := by
  obtain ⟨w1, w2, w3, w4⟩ := norm_words hl (show k ≤ 64 by omega) hb
  have hx : X / 4294967296 ^ r % 4294967296 < 4294967296 := Nat.mod_lt _ (by omega)
  have hd := lead_down X r
  generalize X / 4294967296 ^ r % 4294967296 = x at *
  have hp : 0 < 2 ^ (32 - k) := Nat.pow_pos (by omega)
  have e32 : (4294967296 : Nat) = 2 ^ k * 2 ^ (32 - k) := by rw [← Nat.pow_add, show k + (32 - k) = 32 by omega]
  have hq : x / 2 ^ (32 - k) < 2 ^ k := by rw [Nat.div_lt_iff_lt_mul hp, ← e32]; exact hx
  have e1 : X / 2 ^ (32 * (r + 1) - k) = X / 4294967296 ^ r / 2 ^ (32 - k) := by
    rw [Nat.div_div_eq_div_mul, show (4294967296 : Nat) ^ r = 2 ^ (32 * r) by rw [Nat.pow_mul], ← Nat.pow_add, show 32 * r + (32 - k) = 32 * (r + 1) - k by omega]
  have e2 : (X / 4294967296 ^ (r + 1) * 4294967296 + x) / 2 ^ (32 - k) = X / 4294967296 ^ (r + 1) * 2 ^ k + x / 2 ^ (32 - k) := by
    rw [e32, ← Nat.mul_assoc, Nat.add_comm, Nat.add_mul_div_right _ _ hp, Nat.add_comm]
  have e64 : (18446744073709551616 : Nat) = 2 ^ (64 - k) * 2 ^ k := by rw [← Nat.pow_add, show 64 - k + k = 64 by omega]
  have e3 : lo * 2 ^ k % 18446744073709551616 = lo % 2 ^ (64 - k) * 2 ^ k := by
    rw [e64, Nat.mul_mod_mul_right]
  have e4 : lo % 2 ^ (64 - k) < 2 ^ (64 - k) := Nat.mod_lt _ (Nat.pow_pos (by omega))
  refine ⟨?_, hq, lo % 2 ^ (64 - k), e3, ?_⟩
  · rw [e1, hd, e2, ← Nat.add_assoc, w1, hv]
  · have := Nat.mul_le_mul_right (2 ^ k) (show lo % 2 ^ (64 - k) + 1 ≤ 2 ^ (64 - k) from e4)
    rw [← e64, Nat.add_mul, Nat.one_mul] at this
    omega

set_option maxRecDepth 100000 in
set_option maxHeartbeats 4000000 in
theorem flead_any (ao : Option Addr) (n ca X : Nat) (e : Int) (w : World) (h : Sl w ao n ca (limbs X)) (hX : X % 2 = 1) (hn : n ≤ 100000) (he0 : -100000000 ≤ e) (he1 : e ≤ 100000000) :
    Calls Tryz.prog 153 #[.slice ao n ca, .int .i64 e] w fun r w' => ∃ (H L : Nat) (E : Int) (T : Bool) (j : Nat), r = .returned (.agg #[.int .u64 (H : Int), .int .u64 (L : Int), .int .i64 E, .bool T]) ∧
      H < 18446744073709551616 ∧ L < 18446744073709551616 ∧ H * 18446744073709551616 + L = X / 2 ^ j ∧ H * 18446744073709551616 + L ≠ 0 ∧ E = e + j ∧ T = decide (X % 2 ^ j ≠ 0) ∧ (T = true → 2 ^ 53 ≤ H * 18446744073709551616 + L) ∧ j ≤ 3200000 ∧ Ext w w' := by
  have hlen := h.len
  have hXn : X / 4294967296 ^ n = 0 := by
    refine Nat.div_eq_of_lt ((limbs_len_le X n).1 (by omega))
  have hwf : ∀ r, r < n → (limbs X).getD r 0 = ((X / 4294967296 ^ r % 4294967296 : Nat) : Int) := fun r _ => limbs_at X r
  have hcap := h.cap
  have HS := Lib.hid h
  have HXO := Lib.hid hX
  have HW := Lib.hid hwf
  clear hwf hX
  go_enter Tryz.func153, Tryz.ntmps153
  go_upto_region 2 with fail
  obtain ⟨W, hW, hB, hr, hx, hz⟩ := boxes_nn w 0 0 0 false 0 0 0 false
  rw [← hW]
  clear hW
  have HBB := Lib.hid (show ∀ b off, ao = some ⟨b, off, none⟩ → 0 < n → b < w.heap.size from fun b off e h0 => by
    obtain ⟨b', off', e', hc⟩ := HS.out.cells (by rw [hlen]; exact h0)
    rw [e] at e'
    obtain ⟨rfl, rfl⟩ : b = b' ∧ off = off' := by simpa using e'
    exact lt_of_cell (hc 0 (by rw [hlen]; exact h0)))
  have HSW := Lib.hid (show ∀ wx, Below w.heap.size w wx → Sl wx ao n ca (limbs X) from fun wx hb => HS.out.below hb)
  clear h
  generalize hBe : w.heap.size = B at *
  have HBe := Lib.hid hBe
  clear hBe HS
  go_upto_region 3 with fail
  go_loopw [6] (fun rest wx => ∃ (r hi lo : Nat), rest = .int .i64 (r : Int) ∧ r ≤ n ∧ hi < 18446744073709551616 ∧ lo < 18446744073709551616 ∧ RowKit.Hid (hi * 18446744073709551616 + lo = X / 4294967296 ^ r) ∧ NBox wx (B + 1) (hi : Int) (lo : Int) 0 false ∧ NBox wx B 0 0 0 false ∧ Below B w wx) (fun rest _ => (intOf rest).toNat)
  case atStart => exact ⟨n, 0, 0, rfl, Nat.le_refl _, by omega, by omega, Lib.hid (by rw [hXn]), hx, hr, hB⟩
  case round =>
    clear hx hr hB
    obtain ⟨r, hi, lo, rfl, hrn, hh, hl, HV, hx, hr, hB⟩ := hrel
    have c0 := hx.c0
    have c1 := hx.c1
    have c2 := hx.c2
    have c3 := hx.c3
    have g0 := hx.f 0
    have g1 := hx.f 1
    have g2 := hx.f 2
    have g3 := hx.f 3
    by_cases h0 : 0 < r
    · obtain ⟨m, rfl⟩ : ∃ m, r = m + 1 := ⟨r - 1, by omega⟩
      obtain ⟨b, off, rfl, hc⟩ := (HSW.out wr hB).cells (by rw [hlen]; omega)
      have hcell := hc m (by rw [hlen]; omega)
      rw [HW.out m (by omega)] at hcell
      have hcx : ∀ wx, Below B w wx → wx.cell? ⟨b, off + m, none⟩ = some (.int .u32 ((X / 4294967296 ^ m % 4294967296 : Nat) : Int)) := fun wx hb => by
        obtain ⟨b', off', e', hc'⟩ := (HSW.out wx hb).cells (by rw [hlen]; omega)
        obtain ⟨rfl, rfl⟩ : b = b' ∧ off = off' := by simpa using e'
        rw [← HW.out m (by omega)]
        exact hc' m (by rw [hlen]; omega)
      have hxm : X / 4294967296 ^ m % 4294967296 < 4294967296 := Nat.mod_lt _ (by omega)
      have HD := Lib.hid (lead_down X m)
      have HLT := fun k (hk : k < 32) (hb : hi < 2 ^ (64 - k)) => lead_tail (r := m) HV hl hk hb
      have HXT := Lib.hid (lead_odd (X := X) HXO.out)
      generalize X / 4294967296 ^ m % 4294967296 = x at *
      clear hc
      have hbb0 : b < B := HBB.out b off rfl (by omega)
      have hbb1 : B + 1 ≠ b := by omega
      have hbb2 : b ≠ B + 1 := by omega
      by_cases hs : hi < 4294967296
      · obtain ⟨p1, p2, p3, p4, p5, p6⟩ := lead_step (x := x) rfl hl hs hxm
        have HP1 := Lib.hid p1
        have t0 : ((hi : Int) / 4294967296 == 0) = true := by rw [beq_iff_eq]; omega
        have s1 := wrap32s hs
        have s2 : (lo : Int) / 4294967296 = ((lo / 4294967296 : Nat) : Int) := by omega
        have s3 := or_add32 (a := hi) (b := lo / 4294967296) p3 p2
        have s4 := wrap32 lo
        have s5 := or_add32 (a := lo % 4294967296) (b := x) hxm p6
        clear p1 HLT
        rw [p5] at HP1
        clear p5
        obtain ⟨hi2, hhi2⟩ : ∃ hi2, hi * 4294967296 + lo / 4294967296 = hi2 := ⟨_, rfl⟩
        obtain ⟨lo2, hlo2⟩ : ∃ lo2, lo % 4294967296 * 4294967296 + x = lo2 := ⟨_, rfl⟩
        rw [hhi2] at HP1 s3 p2
        rw [hlo2] at HP1 s5 p6
        obtain ⟨A, hA⟩ : ∃ A, hi * 4294967296 = A := ⟨_, rfl⟩
        obtain ⟨C, hC⟩ : ∃ C, lo % 4294967296 * 4294967296 = C := ⟨_, rfl⟩
        obtain ⟨E, hE⟩ : ∃ E, lo / 4294967296 = E := ⟨_, rfl⟩
        rw [hA] at s1 s3
        rw [hC] at s4 s5
        rw [hE] at s2 s3
        clear hhi2 hlo2 hA hC hE p3 p4
        go_wp2
        go_region
        go_wp2
        go_roundw
        case rel =>
          have ho := only_set2 wr (B + 1) (.int .u64 (hi2 : Int)) (.int .u64 (lo2 : Int))
          exact ⟨m, hi2, lo2, by go_num, by omega, p2, p6, Lib.hid (by rw [HP1.out, HV.out, ← HD.out]), (hx.stored01 hi2 lo2).drew, hr.only ho.drew (by omega), hB.trans (ho.drew.below (B := B) (by omega))⟩
        case measure => simp [intOf]
      · have t0 : ((hi : Int) / 4294967296 == 0) = false := by rw [beq_eq_false_iff_ne]; omega
        obtain ⟨k, hk, hk0, hk1⟩ : ∃ k : Nat, k < 32 ∧ 2 ^ (63 - k) ≤ hi ∧ hi < 2 ^ (64 - k) := lead_free (by omega) hh
        obtain ⟨p1, p2, q, p3, p4⟩ := HLT k hk hk1
        obtain ⟨w1, w2, w3, w4⟩ := norm_words hl (show k ≤ 64 by omega) hk1
        have hge : 18446744073709551616 ≤ (hi * 2 ^ k + lo / 2 ^ (64 - k)) * 18446744073709551616 := by
          have h3 : hi ≤ hi * 2 ^ k := Nat.le_mul_of_pos_right _ (Nat.pow_pos (by omega))
          have h4 : 1 ≤ hi * 2 ^ k + lo / 2 ^ (64 - k) := Nat.le_trans (by omega) (Nat.le_add_right _ _)
          omega
        have CN := Lib.hid (fnormal_hi hi lo k (e + ((m : Int) + 1) * 32) false hk0 hk1 (by omega) hl (by omega) (by omega))
        have CL := Lib.hid (lz_any hk0 hk1 (by omega))
        have s3 := or_add p2 p4
        rw [p3] at p1 CN
        have s1 : (x : Int) / 2 ^ (32 - k) = ((x / 2 ^ (32 - k) : Nat) : Int) := (cast_divpow _ _).symm
        have s2 : (32 - (k : Int)) = ((32 - k : Nat) : Int) := by omega
        have HE := Lib.hid (show e + ((m : Int) + 1) * 32 - (k : Int) = e + ((32 * (m + 1) - k : Nat) : Int) by omega)
        have HP1 := Lib.hid p1
        obtain ⟨Y, hY⟩ : ∃ Y, hi * 2 ^ k + lo / 2 ^ (64 - k) = Y := ⟨_, rfl⟩
        obtain ⟨x2, hx2⟩ : ∃ x2, x / 2 ^ (32 - k) = x2 := ⟨_, rfl⟩
        obtain ⟨Z, hZ⟩ : ∃ Z, q * 2 ^ k = Z := ⟨_, rfl⟩
        rw [hY] at HP1 w2 CN hge
        rw [hx2] at s1 s3 p4 HP1
        rw [hZ] at s3 p4 HP1 CN
        have s6 : IntKind.u64.wrap (x2 : Int) = (x2 : Int) := wrap_nat (by omega)
        obtain ⟨Z2, hZ2⟩ : ∃ Z2, Z + x2 = Z2 := ⟨_, rfl⟩
        rw [hZ2] at s3 HP1 p4
        clear hY hx2 hZ hZ2 p1 p2 p3 w1 w3 w4 HLT hk0 hk1
        have hE0 : -9223372036854775808 ≤ e + ((m : Int) + 1) * 32 := by omega
        have hE2 : e + ((m : Int) + 1) * 32 ≤ 9223372036854775807 := by omega
        obtain ⟨E1, hE1⟩ : ∃ E1 : Int, e + ((m : Int) + 1) * 32 = E1 := ⟨_, rfl⟩
        go_upto_region 8 with fail
        rw [hE1] at CN HE hE0 hE2
        clear hE1
        have x1 := hx.stored2 E1
        have r1 := hr.only (only_set1 wr (B + 1) 2 (.int .i64 E1)) (by omega)
        have b1 := hB.trans ((only_set1 wr (B + 1) 2 (.int .i64 E1)).below (B := B) (by omega))
        generalize wr.setCell ⟨B + 1, 2, none⟩ (.int .i64 E1) = W3 at *
        clear c0 c1 c2 c3 g0 g1 g2 g3 hx hr hB hcell
        have c0 := x1.c0
        have c1 := x1.c1
        have c2 := x1.c2
        have c3 := x1.c3
        have g0 := x1.f 0
        have g1 := x1.f 1
        have g2 := x1.f 2
        have g3 := x1.f 3
        go_wp2_with fail
        refine (CL.out _).mono ?_
        rintro r2 w2 ⟨rfl, rfl⟩
        go_wp2_with fail
        refine (CN.out _).mono ?_
        rintro r2 w4 ⟨rfl, hE4⟩
        have hlt := x1.lt
        have x2 := x1.below hE4
        have r2 := r1.below hE4
        have b2 : Below B w w4 := b1.trans (Below.mono hE4 (by omega))
        clear c0 c1 c2 c3 g0 g1 g2 g3 x1 r1 b1 hE4
        have c0 := x2.c0
        have c1 := x2.c1
        have c2 := x2.c2
        have c3 := x2.c3
        have g0 := x2.f 0
        have g1 := x2.f 1
        have g2 := x2.f 2
        have g3 := x2.f 3
        obtain ⟨E2, hE2'⟩ : ∃ E2 : Int, E1 - (k : Int) = E2 := ⟨_, rfl⟩
        rw [hE2'] at HE
        go_upto_region 11 with fail
        clear hE2'
        have x3 := x2.stored Y Z E2 false
        have ho := only_nset4 w4 (B + 1) (.int .u64 Y) (.int .u64 Z) (.int .i64 E2) (.bool false)
        have r3 := r2.only ho (by omega)
        have b3 := b2.trans (ho.below (B := B) (by omega))
        generalize (((w4.setCell ⟨B + 1, 0, none⟩ (.int .u64 Y)).setCell ⟨B + 1, 1, none⟩ (.int .u64 Z)).setCell ⟨B + 1, 2, none⟩ (.int .i64 E2)).setCell ⟨B + 1, 3, none⟩ (.bool false) = W5 at *
        clear c0 c1 c2 c3 g0 g1 g2 g3 x2 r2 b2 ho
        have hcell := hcx W5 b3
        have c0 := x3.c0
        have c1 := x3.c1
        have c2 := x3.c2
        have c3 := x3.c3
        have g0 := x3.f 0
        have g1 := x3.f 1
        have g2 := x3.f 2
        have g3 := x3.f 3
        go_region
        go_upto_region 13 with fail
        have hh := only_set13 W5 (B + 1) (.int .u64 (Z2 : Int)) (.bool true)
        have x4 := (x3.stored13 (Z2 : Int) true).drew
        have r4 := (r3.only hh (by omega)).drew
        have b4 := (b3.trans (hh.below (B := B) (by omega))).drew
        clear x3 r3 b3 hcell hh
        generalize ((W5.setCell ⟨B + 1, 1, none⟩ (.int .u64 (Z2 : Int))).setCell ⟨B + 1, 3, none⟩ (.bool true)).drew = W6 at *
        clear c0 c1 c2 c3 g0 g1 g2 g3
        have c0 := x4.c0
        have c1 := x4.c1
        have c2 := x4.c2
        have c3 := x4.c3
        have q0 := r4.c0
        have q1 := r4.c1
        have q2 := r4.c2
        have q3 := r4.c3
        have p0 := r4.f 0
        have p1 := r4.f 1
        have p2 := r4.f 2
        have p3 := r4.f 3
        have z := r4.stored (Y : Int) (Z2 : Int) E2 true 
        have z0 := z.c0
        have z1 := z.c1
        have z2 := z.c2
        have z3 := z.c3
        have B4 := Lib.hid (b4.trans ((only_nset4 W6 B (.int .u64 (Y : Int)) (.int .u64 (Z2 : Int)) (.int .i64 E2) (.bool true)).below (B := B) (Nat.le_refl _)))
        clear z x4 r4 b4
        go_wp2
        refine bodyPost_ret (v := .agg #[.int .u64 (Y : Int), .int .u64 (Z2 : Int), .int .i64 E2, .bool true]) (by simp [results, Tryz.results153, go_sem, z0, z1, z2, z3]) rfl ?_
        refine ⟨Y, Z2, E2, true, 32 * (m + 1) - k, rfl, w2, p4, HP1.out, ?_, HE.out, ?_, ?_, by omega, ?_⟩
        · omega
        · exact (decide_eq_true (HXT.out _ (by omega))).symm
        · intro _
          exact Nat.le_trans (by decide) (Nat.le_trans hge (Nat.le_add_right _ _))
        · show Below _ _ _
          rw [HBe.out]
          exact B4.out
    · obtain rfl : r = 0 := by omega
      have hV : hi * 18446744073709551616 + lo = X := by have := HV.out; rwa [Nat.pow_zero, Nat.div_one] at this
      go_upto_region 13 with fail
      have x4 := hx.stored2 e
      have r4 := hr.only (only_set1 wr (B + 1) 2 (.int .i64 e)) (by omega)
      have b4 := hB.trans ((only_set1 wr (B + 1) 2 (.int .i64 e)).below (B := B) (by omega))
      clear hx hr hB
      have HV2 := Lib.hid hV
      clear hV
      generalize wr.setCell ⟨B + 1, 2, none⟩ (.int .i64 e) = W6 at *
      clear c0 c1 c2 c3 g0 g1 g2 g3
      have c0 := x4.c0
      have c1 := x4.c1
      have c2 := x4.c2
      have c3 := x4.c3
      have q0 := r4.c0
      have q1 := r4.c1
      have q2 := r4.c2
      have q3 := r4.c3
      have p0 := r4.f 0
      have p1 := r4.f 1
      have p2 := r4.f 2
      have p3 := r4.f 3
      have z := r4.stored (hi : Int) (lo : Int) e false 
      have z0 := z.c0
      have z1 := z.c1
      have z2 := z.c2
      have z3 := z.c3
      have B4 := Lib.hid (b4.trans ((only_nset4 W6 B (.int .u64 (hi : Int)) (.int .u64 (lo : Int)) (.int .i64 e) (.bool false)).below (B := B) (Nat.le_refl _)))
      clear z x4 r4 b4
      go_wp2
      refine bodyPost_ret (v := .agg #[.int .u64 (hi : Int), .int .u64 (lo : Int), .int .i64 e, .bool false]) (by simp [results, Tryz.results153, go_sem, z0, z1, z2, z3]) rfl ?_
      refine ⟨hi, lo, e, false, 0, rfl, hh, hl, by rw [HV2.out, Nat.pow_zero, Nat.div_one], ?_, by simp, by simp [Nat.mod_one], fun h => by (cases h), by omega, ?_⟩
      · rw [HV2.out]; have := HXO.out; omega
      · show Below _ _ _
        rw [HBe.out]
        exact B4.out
end Go.Proofs.YtjohpdobnedilaaGreatDoor

/- The sanity check of package float's statements returns true. -/
namespace Go.Proofs.YtjohpdobnedilaaGreatDoor
open Go.RowKit

theorem fdivhalf_val : 0 + fla false (1 * 18446744073709551616 + 0) (-52 - 75 - (-51 - 75) - 64) false 2 = 4602678819172646912 := by decide +kernel

set_option maxRecDepth 100000 in
set_option maxHeartbeats 1000000 in
theorem fdiv_half (w : World) :
    Calls Tryz.prog 92 #[.int .u64 4607182418800017408, .int .u64 4611686018427387904, .int .i64 2] w fun r w' => r = .returned (.int .u64 4602678819172646912) ∧ Ext w w' := by
  have h1 := bits_xor_u64_nat 4607182418800017408 4611686018427387904 (by omega) (by omega)
  have hx : (4607182418800017408 : Nat) ^^^ 4611686018427387904 = 9218868437227405312 := by decide +kernel
  rw [hx, show ((4607182418800017408 : Nat) : Int) = 4607182418800017408 from rfl, show ((4611686018427387904 : Nat) : Int) = 4611686018427387904 from rfl, show ((9218868437227405312 : Nat) : Int) = 9218868437227405312 from rfl] at h1
  have CS := signOf_any 9218868437227405312 (by omega)
  rw [show sgz (fneg 9218868437227405312) = 0 by decide +kernel, show ((9218868437227405312 : Nat) : Int) = 9218868437227405312 from rfl, show ((0 : Nat) : Int) = 0 from rfl] at CS
  have NA := isNaN_any 4607182418800017408 (by omega)
  have NB := isNaN_any 4611686018427387904 (by omega)
  have IA := isInf_any 4607182418800017408 (by omega)
  have IB := isInf_any 4611686018427387904 (by omega)
  have ZA := isZero_any 4607182418800017408 (by omega)
  have ZB := isZero_any 4611686018427387904 (by omega)
  have SA := fsplit_any 4607182418800017408 (by omega)
  have SBB := fsplit_any 4611686018427387904 (by omega)
  rw [show nanB 4607182418800017408 = false by decide +kernel] at NA
  rw [show nanB 4611686018427387904 = false by decide +kernel] at NB
  rw [show infB 4607182418800017408 = false by decide +kernel] at IA
  rw [show infB 4611686018427387904 = false by decide +kernel] at IB
  rw [show zeroB 4607182418800017408 = false by decide +kernel] at ZA
  rw [show zeroB 4611686018427387904 = false by decide +kernel] at ZB
  rw [show sig 4607182418800017408 = 4503599627370496 by decide +kernel, show fsh 4607182418800017408 = 1022 by decide +kernel, show -1074 + ((1022 : Nat) : Int) = -52 by decide] at SA
  rw [show sig 4611686018427387904 = 4503599627370496 by decide +kernel, show fsh 4611686018427387904 = 1023 by decide +kernel, show -1074 + ((1023 : Nat) : Int) = -51 by decide] at SBB
  rw [show ((4607182418800017408 : Nat) : Int) = 4607182418800017408 from rfl] at NA IA ZA SA
  rw [show ((4611686018427387904 : Nat) : Int) = 4611686018427387904 from rfl] at NB IB ZB SBB
  rw [show ((4503599627370496 : Nat) : Int) = 4503599627370496 from rfl] at SA SBB
  have CQ := fquot_one (-52) (-51) (by omega) (by omega) (by omega) (by omega)
  have CR := fround_at 1 0 (-52 - 75 - (-51 - 75) - 64) false false 2 (by omega) (by omega) (by omega) (by simp) (by omega) (by omega) (z := 0) rfl 4602678819172646912 fdivhalf_val
  rw [show ((1 : Nat) : Int) = 1 from rfl, show ((0 : Nat) : Int) = 0 from rfl, show ((4602678819172646912 : Nat) : Int) = 4602678819172646912 from rfl] at CR
  have NA := Lib.hid NA; have NB := Lib.hid NB; have IA := Lib.hid IA; have IB := Lib.hid IB; have ZA := Lib.hid ZA; have ZB := Lib.hid ZB
  have SA := Lib.hid SA; have SBB := Lib.hid SBB; have CQ := Lib.hid CQ; have CR := Lib.hid CR; have CS := Lib.hid CS
  clear hx
  go_enter Tryz.func92, Tryz.ntmps92
  go_wp2_with (first | ((with_reducible refine (NA.out _).mono ?_); rintro r w1 ⟨rfl, rfl⟩) | ((with_reducible refine (NB.out _).mono ?_); rintro r w1 ⟨rfl, rfl⟩) | ((with_reducible refine (IA.out _).mono ?_); rintro r w1 ⟨rfl, rfl⟩) | ((with_reducible refine (IB.out _).mono ?_); rintro r w1 ⟨rfl, rfl⟩) | ((with_reducible refine (ZA.out _).mono ?_); rintro r w1 ⟨rfl, rfl⟩) | ((with_reducible refine (ZB.out _).mono ?_); rintro r w1 ⟨rfl, rfl⟩))
  refine (SA.out _).mono ?_
  rintro r w1 ⟨rfl, hE1⟩
  have E1 := Lib.hid hE1
  clear hE1
  go_wp2_with fail
  refine (SBB.out _).mono ?_
  rintro r w2 ⟨rfl, hE2⟩
  have E2 := Lib.hid (Ext.trans E1.out hE2)
  clear hE2
  go_wp2_with fail
  refine (CQ.out _).mono ?_
  rintro r w3 ⟨rfl, hE3⟩
  have E3 := Lib.hid (Ext.trans E2.out hE3)
  clear hE3
  go_wp2_with fail
  refine (CS.out _).mono ?_
  rintro r w4 ⟨rfl, rfl⟩
  go_wp2_with fail
  refine (CR.out _).mono ?_
  rintro r w5 ⟨rfl, hE4⟩
  go_wp2
  go_ret
  exact ⟨rfl, Ext.trans E3.out hE4⟩

set_option maxRecDepth 100000 in
set_option maxHeartbeats 2000000 in
theorem fleading_one (ao : Option Addr) (n ca : Nat) (w : World) (h : Sl w ao n ca [1]) :
    Calls Tryz.prog 153 #[.slice ao n ca, .int .i64 0] w fun r w' => r = .returned (.agg #[.int .u64 0, .int .u64 1, .int .i64 0, .bool false]) ∧ Ext w w' := by
  obtain rfl : 1 = n := h.len
  obtain ⟨bb, ob, rfl, hc⟩ := h.cells (by simp)
  have hcell : w.cell? ⟨bb, ob, none⟩ = some (.int .u32 1) := by have := hc 0 (by simp); simpa using this
  have hcap := h.cap
  have hbb0 := lt_of_cell hcell
  clear h hc
  go_enter Tryz.func153, Tryz.ntmps153
  go_upto_region 2 with fail
  obtain ⟨W, hW, hB, hr, hx, hz⟩ := boxes_nn w 0 0 0 false 0 0 0 false
  rw [← hW]
  clear hW
  have hcell := (show W.cell? ⟨bb, ob, none⟩ = some (.int .u32 1) by rw [hB.cell (p := ⟨bb, ob, none⟩) hbb0]; exact hcell)
  generalize hBe : w.heap.size = B at *
  have HBe := Lib.hid hBe
  clear hBe
  have o0 : bits BinOp.or IntKind.u64 0 0 = 0 := by decide
  have o1 : bits BinOp.or IntKind.u64 0 1 = 1 := by decide
  go_upto_region 3 with fail
  go_loopw [6] (fun rest wx => ((rest = .int .i64 1 ∧ NBox wx (B + 1) 0 0 0 false) ∨ (rest = .int .i64 0 ∧ NBox wx (B + 1) 0 1 0 false)) ∧ NBox wx B 0 0 0 false ∧ Below B w wx ∧ wx.cell? ⟨bb, ob, none⟩ = some (.int .u32 1)) (fun rest _ => (intOf rest).toNat)
  case atStart => exact ⟨Or.inl ⟨rfl, hx⟩, hr, hB, hcell⟩
  case round =>
    clear hx hr hB hcell
    obtain ⟨⟨rfl, hx⟩ | ⟨rfl, hx⟩, hr, hB, hcell⟩ := hrel
    · have c0 := hx.c0
      have c1 := hx.c1
      have c2 := hx.c2
      have c3 := hx.c3
      have g0 := hx.f 0
      have g1 := hx.f 1
      go_wp2
      go_region
      go_wp2
      go_roundw
      case rel =>
        have ho := only_set2 wr (B + 1) (.int .u64 0) (.int .u64 1)
        exact ⟨Or.inr ⟨rfl, (hx.stored01 0 1).drew⟩, hr.only ho.drew (by omega), hB.trans (ho.drew.below (B := B) (by omega)), (World.cell?_of_block (w := wr) (ho.drew.block bb (by omega))).trans hcell⟩
      case measure => simp [intOf] <;> omega
    · have c0 := hx.c0
      have c1 := hx.c1
      have c2 := hx.c2
      have c3 := hx.c3
      have g2 := hx.f 2
      go_upto_region 13 with fail
      have x1 := hx.stored2 0
      have r1 := hr.only (only_set1 wr (B + 1) 2 (.int .i64 0)) (by omega)
      have b1 := hB.trans ((only_set1 wr (B + 1) 2 (.int .i64 0)).below (B := B) (by omega))
      generalize wr.setCell ⟨B + 1, 2, none⟩ (.int .i64 0) = W3 at *
      clear c0 c1 c2 c3 g2 hx hr hB hcell
      have c0 := x1.c0
      have c1 := x1.c1
      have c2 := x1.c2
      have c3 := x1.c3
      have q0 := r1.c0
      have q1 := r1.c1
      have q2 := r1.c2
      have q3 := r1.c3
      have p0 := r1.f 0
      have p1 := r1.f 1
      have p2 := r1.f 2
      have p3 := r1.f 3
      have z := r1.stored 0 1 0 false
      have z0 := z.c0
      have z1 := z.c1
      have z2 := z.c2
      have z3 := z.c3
      have B1 := Lib.hid (b1.trans ((only_nset4 W3 B (.int .u64 0) (.int .u64 1) (.int .i64 0) (.bool false)).below (B := B) (Nat.le_refl _)))
      clear z x1 r1 b1
      go_wp2
      refine bodyPost_ret (v := .agg #[.int .u64 0, .int .u64 1, .int .i64 0, .bool false]) (by simp [results, Tryz.results153, go_sem, z0, z1, z2, z3]) rfl ⟨rfl, ?_⟩
      show Below _ _ _
      rw [HBe.out]
      exact B1.out

set_option maxRecDepth 100000 in
theorem signOfDyad_pos (bb : Bool) (ao : Option Addr) (n ca : Nat) (f : Int) (w : World) :
    Calls Tryz.prog 154 #[.agg #[.bool bb, .bool false, .slice ao n ca, .int .i64 f]] w fun e w' => e = .returned (.int .u64 0) ∧ Ext w w' := by
  go_enter Tryz.func154, Tryz.ntmps154
  go_upto_region 1 with fail
  obtain ⟨W, hW, hB, hx, hz⟩ := dbox_new w bb false ao n ca f
  rw [← hW]
  clear hW
  have HB := Lib.hid (show Ext w W from hB)
  clear hB
  generalize w.heap.size = B at *
  have c1 := hx.c1
  go_wp2
  go_ret
  exact ⟨rfl, HB.out⟩

theorem fone_val : 0 + fla false (0 * 18446744073709551616 + 1) 0 false 1 = 4607182418800017408 := by decide +kernel

set_option maxRecDepth 100000 in
set_option maxHeartbeats 4000000 in
theorem fround_one (v : Value) (w : World) (hv : Dn w v (some (1, 0))) (hT : Table w) :
    Calls Tryz.prog 84 #[v, .int .i64 1] w fun r w' => r = .returned (.int .u64 4607182418800017408) ∧ Ext w w' := by
  obtain ⟨vb, vn, vo, vk, vc, ve, rfl⟩ := hv.parts
  have HT := Lib.hid hT
  clear hT
  go_enter Tryz.func84, Tryz.ntmps84
  go_upto_region 1 with fail
  obtain ⟨W, hW, hB, hx, hz⟩ := dbox_new w vb vn vo vk vc ve
  rw [← hW]
  clear hW
  have hd := hv.dg.ext (show Ext w W from hB)
  have hTW := HT.out.below hB
  generalize hBe : w.heap.size = B at *
  have HBe := Lib.hid hBe
  clear hBe hv
  have c0 := hx.c0
  have c1 := hx.c1
  have c2 := hx.c2
  have c3 := hx.c3
  have HD := Lib.hid hd
  have HTW := Lib.hid hTW
  clear hd hTW
  go_wp2_with fail
  refine (dnorm_any _ _ _ HD.out HTW.out).mono ?_
  rintro r w1 ⟨v1, rfl, hd, hE⟩
  obtain ⟨nb, nn, no, nk, nc, ne, rfl⟩ := hd.parts
  obtain ⟨h1, h2, h3⟩ := hd.get
  obtain rfl : nb = false := h1
  obtain rfl : ne = 0 := h2
  have hbn : Bn w1 nn no nk nc 1 := h3
  have hnn : nn = false := by rw [hbn.neg]; rfl
  subst hnn
  have x1 := hx.below hE
  have b1 : Below B w w1 := hB.trans (Below.mono hE (by omega))
  clear c0 c1 c2 c3 hd hx hB hE
  have g0 := x1.f 0
  have g1 := x1.f 1
  have g2 := x1.f 2
  have g3 := x1.f 3
  have c0 := x1.c0
  have c1 := x1.c1
  have c2 := x1.c2
  have c3 := x1.c3
  go_upto_region 2 with fail
  have hsl := hbn.sl
  rw [show (1 : Int).natAbs = 1 from rfl, show limbs 1 = [1] by rw [limbs_pos (by omega)]; simp [limbs_zero]] at hsl
  have ho := only_set4 w1 B (.bool false) (.bool false) (.slice no nk nc) (.int .i64 0)
  have x2 := x1.stored false false no nk nc 0
  have s2 := hsl.only_dbox x1 ho
  have n2 := hbn.only_dbox x1 ho
  have b2 := b1.trans (ho.below (B := B) (Nat.le_refl _))
  generalize (((w1.setCell ⟨B, 0, none⟩ (.bool false)).setCell ⟨B, 1, none⟩ (.bool false)).setCell ⟨B, 2, none⟩ (.slice no nk nc)).setCell ⟨B, 3, none⟩ (.int .i64 0) = W2 at *
  clear c0 c1 c2 c3 g0 g1 g2 g3 x1 b1 ho hsl hbn
  have hnk : nk ≤ 1000000000 := by have := s2.len; simp at this; omega
  have CS := Lib.hid (fun wx (h : Ext W2 wx) => sign_any false no nk nc 1 wx ((n2.below h).bg hnk))
  have CL := Lib.hid (fun wx (h : Ext W2 wx) => fleading_one no nk nc wx (s2.below h))
  have CR := fround_at 0 1 0 false false 1 (by omega) (by omega) (by omega) (by simp) (by omega) (by omega) (z := 0) rfl 4607182418800017408 fone_val
  rw [show ((1 : Nat) : Int) = 1 from rfl, show ((0 : Nat) : Int) = 0 from rfl, show ((4607182418800017408 : Nat) : Int) = 4607182418800017408 from rfl] at CR
  have CR := Lib.hid CR
  have CG := Lib.hid (signOfDyad_pos false no nk nc 0)
  have hcells : ∀ wx, Ext W2 wx → (wx.cell? ⟨B, 0, none⟩ = some (.bool false) ∧ wx.cell? ⟨B, 1, none⟩ = some (.bool false) ∧ wx.cell? ⟨B, 2, none⟩ = some (.slice no nk nc) ∧ wx.cell? ⟨B, 3, none⟩ = some (.int .i64 0)) := fun wx h => ⟨(x2.ext h).c0, (x2.ext h).c1, (x2.ext h).c2, (x2.ext h).c3⟩
  have HC := Lib.hid hcells
  have B2 := Lib.hid (And.intro b2 x2.lt)
  clear hcells s2 n2 x2 b2 hnk
  obtain ⟨c0, c1, c2, c3⟩ := HC.out W2 (Ext.refl _)
  go_wp2_with fail
  refine (CS.out _ (Ext.refl _)).mono ?_
  rintro r w3 ⟨rfl, hE⟩
  have E3 : Ext W2 w3 := hE
  have v1 : sgn3 1 0 = 1 := by decide
  clear c0 c1 c2 c3 hE
  obtain ⟨c0, c1, c2, c3⟩ := HC.out w3 E3
  go_upto_region 6 with fail
  clear v1
  have e0 : Ext W2 w3.drew := Ext.trans E3 ((Below.refl _ _).drew)
  go_region_held3 (fun wx => wx.cell? ⟨B, 0, none⟩ = some (.bool false) ∧ wx.cell? ⟨B, 1, none⟩ = some (.bool false) ∧ wx.cell? ⟨B, 2, none⟩ = some (.slice no nk nc) ∧ wx.cell? ⟨B, 3, none⟩ = some (.int .i64 0))
    (first | exact HC.out _ (by assumption))
    (first
      | (go_at_call 153; refine (CL.out _ (by assumption)).mono ?_; rintro e wn ⟨rfl, hE1⟩; have e1 : Ext W2 wn := Ext.trans (by assumption) hE1)
      | (go_at_call 154; refine (CG.out _).mono ?_; rintro e wn ⟨rfl, hE1⟩; have e1 : Ext W2 wn := Ext.trans (by assumption) hE1)
      | (go_at_call 89; refine (CR.out _).mono ?_; rintro e wn ⟨rfl, hE1⟩; have e1 : Ext W2 wn := Ext.trans (by assumption) hE1))
  all_goals
    have EF : Ext W2 wn := by assumption
    go_wp2
    go_ret
    refine ⟨rfl, ?_⟩
    show Below _ _ _
    rw [HBe.out]
    exact B2.out.1.trans (Below.mono EF (by have := B2.out.2; omega))

set_option maxRecDepth 100000 in
set_option maxHeartbeats 4000000 in
theorem fawake_any (w : World) (hT : Table w) : Calls Tryz.prog 35 #[] w fun e w' => e = .returned (.bool true) ∧ Ext w w' := by
  have C1 := fadd_any 4607182418800017408 4607182418800017408 0 (by omega) (by omega)
  rw [show faddF 4607182418800017408 4607182418800017408 0 = 4611686018427387904 by decide +kernel, show ((4607182418800017408 : Nat) : Int) = 4607182418800017408 from rfl, show ((4611686018427387904 : Nat) : Int) = 4611686018427387904 from rfl] at C1
  have C2 := fmul_any 1 1 2 (by omega) (by omega)
  rw [show fmulF 1 1 2 = 1 by decide +kernel, show ((1 : Nat) : Int) = 1 from rfl] at C2
  have C3 := kind_any 9218868437227405312 (by omega)
  rw [show fkind 9218868437227405312 = 2 by decide +kernel, show ((9218868437227405312 : Nat) : Int) = 9218868437227405312 from rfl] at C3
  have C1 := Lib.hid C1
  have C2 := Lib.hid C2
  have C3 := Lib.hid C3
  have HT := Lib.hid hT
  clear hT
  go_enter Tryz.func35, Tryz.ntmps35
  go_wp2_with fail
  refine (C1.out _).mono ?_
  rintro r w1 ⟨rfl, hE1⟩
  have E1 := Lib.hid hE1
  clear hE1
  go_wp2_with fail
  refine (fdiv_half _).mono ?_
  rintro r w2 ⟨rfl, hE2⟩
  have E2 := Lib.hid (Ext.trans E1.out hE2)
  clear hE2
  go_wp2_with fail
  refine (dfromInt_any 1 _ (by omega) (by omega) (HT.out.below E2.out)).mono ?_
  rintro r w3 ⟨v, rfl, hv, hE3⟩
  rw [show dmk 1 0 = some (1, 0) from dmk_norm (Or.inr ⟨by decide, by decide, by decide⟩)] at hv
  have E3 := Lib.hid (Ext.trans E2.out hE3)
  have HV := Lib.hid hv
  clear hE3 hv
  go_wp2_with fail
  refine (fround_one v _ HV.out (HT.out.below E3.out)).mono ?_
  rintro r w4 ⟨rfl, hE4⟩
  have E4 := Lib.hid (Ext.trans E3.out hE4)
  clear hE4
  go_wp2_with fail
  refine (C3.out _).mono ?_
  rintro r w5 ⟨rfl, rfl⟩
  go_wp2_with fail
  refine (C2.out _).mono ?_
  rintro r w6 ⟨rfl, hE5⟩
  go_wp2
  go_ret
  exact ⟨rfl, Ext.trans E4.out hE5⟩
end Go.Proofs.YtjohpdobnedilaaGreatDoor

/- What float.Round does, for any dyad. -/
namespace Go.Proofs.YtjohpdobnedilaaGreatDoor
open Go.RowKit

/-- a dyad rounded -/
def frdF (d : Dy) (mode : Int) : Nat :=
  match d with
  | none => 9221120237041090560
  | some (m, e) => rz m e mode

theorem frdF_lt (d : Dy) (mode : Int) : frdF d mode < 18446744073709551616 := by
  cases d with
  | none => show 9221120237041090560 < 18446744073709551616; omega
  | some p => exact (rz_facts p.1 p.2 mode).2

/-- the first bits and a tail are rounded like the whole -/
theorem fla_cut (neg : Bool) {X j : Nat} {e : Int} (mode : Int) {N : Nat} {T : Bool} (hN : N = X / 2 ^ j) (hT : T = decide (X % 2 ^ j ≠ 0)) (h53 : T = true → 2 ^ 53 ≤ N) (h0 : N ≠ 0) : fla neg N (e + j) T mode = fla neg X e false mode := by
  cases T with
  | true =>
    have := fla_tail neg (N := X) e false mode j (by rw [← hN]; exact h53 rfl)
    rw [Bool.false_or, ← hT, ← hN] at this
    exact this
  | false =>
    have hr : X % 2 ^ j = 0 := by simpa using hT
    have hm := Nat.div_add_mod X (2 ^ j)
    rw [hr, ← hN, Nat.add_zero, Nat.mul_comm] at hm
    exact fla_eq neg (a := j) (b := 0) mode h0 (by rw [hm, Nat.pow_zero, Nat.mul_one]) (by omega)

set_option maxRecDepth 100000 in
theorem signOfDyad_any (bb nb : Bool) (ao : Option Addr) (n ca : Nat) (f : Int) (w : World) :
    Calls Tryz.prog 154 #[.agg #[.bool bb, .bool nb, .slice ao n ca, .int .i64 f]] w fun e w' => e = .returned (.int .u64 ((sgz nb : Nat) : Int)) ∧ Ext w w' := by
  cases nb
  all_goals
    go_enter Tryz.func154, Tryz.ntmps154
    go_upto_region 1 with fail
    first
      | obtain ⟨W, hW, hB, hx, hz⟩ := dbox_new w bb false ao n ca f; rw [← hW]; clear hW
      | obtain ⟨W, hW, hB, hx, hz⟩ := dbox_new w bb true ao n ca f; rw [← hW]; clear hW
    have HB := Lib.hid (show Ext w W from hB)
    clear hB
    generalize w.heap.size = B at *
    have c1 := hx.c1
    go_wp2
    go_ret
    exact ⟨rfl, HB.out⟩

theorem Dg.parts {w : World} {v : Value} {d : Dy} (h : Dg w v d) : ∃ bb nb ao n ca f, v = .agg #[.bool bb, .bool nb, .slice ao n ca, .int .i64 f] := by
  obtain ⟨bb, nb, ao, n, ca, x, f, h1, h2⟩ := h
  exact ⟨_, _, _, _, _, _, h1⟩

/-- round, of what leading gives -/
theorem fround_rz {m e : Int} {H L : Nat} {E : Int} {T : Bool} {j : Nat} {nn : Bool} (hH : H < 18446744073709551616) (hL : L < 18446744073709551616) (hV : H * 18446744073709551616 + L = m.natAbs / 2 ^ j) (h0 : H * 18446744073709551616 + L ≠ 0) (hE : E = e + j) (hTT : T = decide (m.natAbs % 2 ^ j ≠ 0)) (h53 : T = true → 2 ^ 53 ≤ H * 18446744073709551616 + L) (hj : j ≤ 3200000)
    (he0 : -65536 ≤ e) (he1 : e ≤ 65536) (hnn : nn = decide (m < 0)) (hm : m ≠ 0) (mode : Int) (w : World) :
    Calls Tryz.prog 89 #[.agg #[.int .u64 (H : Int), .int .u64 (L : Int), .int .i64 E, .bool T], .int .u64 ((sgz nn : Nat) : Int), .int .i64 mode] w fun r w' => r = .returned (.int .u64 ((rz m e mode : Nat) : Int)) ∧ Ext w w' := by
  refine (fround_any H L E T nn mode hH hL h0 h53 (by omega) (by omega) w).mono fun r w' ⟨hr, hw⟩ => ⟨?_, hw⟩
  rw [hr, hE, fla_cut nn mode hV hTT h53 h0]
  unfold rz
  rw [if_neg hm, rnd_sgz, hnn]

set_option maxRecDepth 100000 in
set_option maxHeartbeats 4000000 in
theorem frd_none (v : Value) (mode : Int) (w : World) (hv : Dg w v none) (hT : Table w) :
    Calls Tryz.prog 84 #[v, .int .i64 mode] w fun r w' => r = .returned (.int .u64 9221120237041090560) ∧ Ext w w' := by
  obtain ⟨vb, vn, vo, vk, vc, ve, rfl⟩ := hv.parts
  have HT := Lib.hid hT
  clear hT
  go_enter Tryz.func84, Tryz.ntmps84
  go_upto_region 1 with fail
  obtain ⟨W, hW, hB, hx, hz⟩ := dbox_new w vb vn vo vk vc ve
  rw [← hW]
  clear hW
  have hd := hv.ext (show Ext w W from hB)
  have hTW := HT.out.below hB
  generalize hBe : w.heap.size = B at *
  have HBe := Lib.hid hBe
  clear hBe hv
  have c0 := hx.c0
  have c1 := hx.c1
  have c2 := hx.c2
  have c3 := hx.c3
  have HD := Lib.hid hd
  have HTW := Lib.hid hTW
  clear hd hTW
  go_wp2_with fail
  refine (dnorm_any _ _ _ HD.out HTW.out).mono ?_
  rintro r w1 ⟨v1, rfl, hd, hE⟩
  obtain ⟨nb, nn, no, nk, nc, ne, rfl⟩ := hd.parts
  obtain ⟨h1, h2, h3⟩ := hd.get
  obtain rfl : nb = true := h1
  have x1 := hx.below hE
  have b1 : Below B w w1 := hB.trans (Below.mono hE (by omega))
  clear c0 c1 c2 c3 hx hB hE
  have g0 := x1.f 0
  have g1 := x1.f 1
  have g2 := x1.f 2
  have g3 := x1.f 3
  have c0 := x1.c0
  have c1 := x1.c1
  have c2 := x1.c2
  have c3 := x1.c3
  clear hd h2 h3
  go_upto_region 2 with fail
  have ho := only_set4 w1 B (.bool true) (.bool nn) (.slice no nk nc) (.int .i64 ne)
  have x2 := x1.stored true nn no nk nc ne
  have b2 := b1.trans (ho.below (B := B) (Nat.le_refl _))
  generalize (((w1.setCell ⟨B, 0, none⟩ (.bool true)).setCell ⟨B, 1, none⟩ (.bool nn)).setCell ⟨B, 2, none⟩ (.slice no nk nc)).setCell ⟨B, 3, none⟩ (.int .i64 ne) = W2 at *
  clear c0 c1 c2 c3 g0 g1 g2 g3 x1 b1 ho
  have c0 := x2.c0
  have B2 := Lib.hid b2
  clear b2
  go_wp2
  go_ret
  refine ⟨rfl, ?_⟩
  show Below _ _ _
  rw [HBe.out]
  exact B2.out

set_option maxRecDepth 100000 in
set_option maxHeartbeats 4000000 in
theorem frd_some (v : Value) (m e mode : Int) (w : World) (hv : Dg w v (some (m, e))) (hT : Table w) :
    Calls Tryz.prog 84 #[v, .int .i64 mode] w fun r w' => r = .returned (.int .u64 ((rz m e mode : Nat) : Int)) ∧ Ext w w' := by
  obtain ⟨vb, vn, vo, vk, vc, ve, rfl⟩ := hv.parts
  have HT := Lib.hid hT
  clear hT
  go_enter Tryz.func84, Tryz.ntmps84
  go_upto_region 1 with fail
  obtain ⟨W, hW, hB, hx, hz⟩ := dbox_new w vb vn vo vk vc ve
  rw [← hW]
  clear hW
  have hd := hv.ext (show Ext w W from hB)
  have hTW := HT.out.below hB
  generalize hBe : w.heap.size = B at *
  have HBe := Lib.hid hBe
  clear hBe hv
  have c0 := hx.c0
  have c1 := hx.c1
  have c2 := hx.c2
  have c3 := hx.c3
  have HD := Lib.hid hd
  have HTW := Lib.hid hTW
  clear hd hTW
  go_wp2_with fail
  refine (dnorm_any _ _ _ HD.out HTW.out).mono ?_
  rintro r w1 ⟨v1, rfl, hd, hE⟩
  obtain ⟨nb, nn, no, nk, nc, ne, rfl⟩ := hd.parts
  obtain ⟨h1, h2, h3⟩ := hd.get
  obtain rfl : nb = false := h1
  have x1 := hx.below hE
  have b1 : Below B w w1 := hB.trans (Below.mono hE (by omega))
  clear c0 c1 c2 c3 hx hB hE
  have g0 := x1.f 0
  have g1 := x1.f 1
  have g2 := x1.f 2
  have g3 := x1.f 3
  have c0 := x1.c0
  have c1 := x1.c1
  have c2 := x1.c2
  have c3 := x1.c3
  obtain rfl : ne = e := h2
  have hbn : Bn w1 nn no nk nc m := h3
  have hnd : Nd (some (m, ne)) := hd.1
  have HNN := Lib.hid hbn.neg
  clear hd h3
  go_upto_region 2 with fail
  have hsl := hbn.sl
  have ho := only_set4 w1 B (.bool false) (.bool nn) (.slice no nk nc) (.int .i64 ne)
  have x2 := x1.stored false nn no nk nc ne
  have s2 := hsl.only_dbox x1 ho
  have n2 := hbn.only_dbox x1 ho
  have b2 := b1.trans (ho.below (B := B) (Nat.le_refl _))
  generalize (((w1.setCell ⟨B, 0, none⟩ (.bool false)).setCell ⟨B, 1, none⟩ (.bool nn)).setCell ⟨B, 2, none⟩ (.slice no nk nc)).setCell ⟨B, 3, none⟩ (.int .i64 ne) = W2 at *
  clear c0 c1 c2 c3 g0 g1 g2 g3 x1 b1 ho hsl hbn
  have hnk : nk ≤ 4096 := by
    rw [← s2.len]
    have h4 := (nd_blen hnd).1
    exact limbs_of_blen (a := m.natAbs) (k := 4096) (show blen m.natAbs ≤ 131072 from h4)
  have hne := (nd_blen hnd).2
  have hne0 : -65536 ≤ ne := hne.1
  have hne1 : ne ≤ 65536 := hne.2
  clear hne
  have CS := Lib.hid (fun wx (h : Ext W2 wx) => sign_any nn no nk nc m wx ((n2.below h).bg (by omega)))
  have CG := Lib.hid (signOfDyad_any false nn no nk nc ne)
  have hcells : ∀ wx, Ext W2 wx → (wx.cell? ⟨B, 0, none⟩ = some (.bool false) ∧ wx.cell? ⟨B, 1, none⟩ = some (.bool nn) ∧ wx.cell? ⟨B, 2, none⟩ = some (.slice no nk nc) ∧ wx.cell? ⟨B, 3, none⟩ = some (.int .i64 ne)) := fun wx h => ⟨(x2.ext h).c0, (x2.ext h).c1, (x2.ext h).c2, (x2.ext h).c3⟩
  have HC := Lib.hid hcells
  have B2 := Lib.hid (And.intro b2 x2.lt)
  have HND := Lib.hid hnd
  have S2 := Lib.hid s2
  clear hcells s2 n2 x2 b2 hnd
  obtain ⟨c0, c1, c2, c3⟩ := HC.out W2 (Ext.refl _)
  by_cases hm : m = 0
  · have v1 : sgn3 m 0 = 0 := by rw [hm]; decide
    go_wp2_with fail
    refine (CS.out _ (Ext.refl _)).mono ?_
    rintro r w3 ⟨rfl, hE⟩
    have E3 : Ext W2 w3 := hE
    clear c0 c1 c2 c3 hE
    go_wp2
    go_ret
    refine ⟨by unfold rz; rw [if_pos hm]; rfl, ?_⟩
    show Below _ _ _
    rw [HBe.out]
    exact B2.out.1.trans (Below.mono E3 (by have := B2.out.2; omega))
  · have hodd : m.natAbs % 2 = 1 := by
      rcases HND.out with ⟨h, _⟩ | ⟨h, _⟩
      · exact absurd h hm
      · exact h
    have v1 : (sgn3 m 0 == 0) = false := by rw [beq_eq_false_iff_ne]; unfold sgn3; split <;> (try split) <;> omega
    have CL := Lib.hid (fun wx (h : Ext W2 wx) => flead_any no nk nc m.natAbs ne wx (S2.out.below h) hodd (by omega) (by omega) (by omega))
    have CR := Lib.hid (fun (H L : Nat) (E : Int) (T : Bool) (j : Nat) (hH : H < 18446744073709551616) (hL : L < 18446744073709551616) (hV : H * 18446744073709551616 + L = m.natAbs / 2 ^ j) (h0 : H * 18446744073709551616 + L ≠ 0) (hE : E = ne + j) (hTT : T = decide (m.natAbs % 2 ^ j ≠ 0)) (h53 : T = true → 2 ^ 53 ≤ H * 18446744073709551616 + L) (hj : j ≤ 3200000) (wx : World) =>
      fround_rz (m := m) (e := ne) hH hL hV h0 hE hTT h53 hj (by omega) (by omega) HNN.out hm mode wx)
    clear hodd
    go_wp2_with fail
    refine (CS.out _ (Ext.refl _)).mono ?_
    rintro r w3 ⟨rfl, hE⟩
    have E3 : Ext W2 w3 := hE
    clear c0 c1 c2 c3 hE
    obtain ⟨c0, c1, c2, c3⟩ := HC.out w3 E3
    go_upto_region 6 with fail
    clear v1
    have e0 : Ext W2 w3.drew := Ext.trans E3 ((Below.refl _ _).drew)
    go_region_held3 (fun wx => wx.cell? ⟨B, 0, none⟩ = some (.bool false) ∧ wx.cell? ⟨B, 1, none⟩ = some (.bool nn) ∧ wx.cell? ⟨B, 2, none⟩ = some (.slice no nk nc) ∧ wx.cell? ⟨B, 3, none⟩ = some (.int .i64 ne))
      (first | exact HC.out _ (by assumption))
      (first
        | (go_at_call 153; refine (CL.out _ (by assumption)).mono ?_; rintro e wn ⟨H, L, E, T, j, rfl, hH, hL, hV, h0, hE, hTT, h53, hj, hE1⟩; have CR := Lib.hid (CR.out H L E T j hH hL hV h0 hE hTT h53 hj); clear hV h0 hE hTT h53 hj; have e1 : Ext W2 wn := Ext.trans (by assumption) hE1)
        | (go_at_call 154; refine (CG.out _).mono ?_; rintro e wn ⟨rfl, hE1⟩; have e1 : Ext W2 wn := Ext.trans (by assumption) hE1)
        | (go_at_call 89; refine (CR.out _).mono ?_; rintro e wn ⟨rfl, hE1⟩; have e1 : Ext W2 wn := Ext.trans (by assumption) hE1))
    all_goals
      have EF : Ext W2 wn := by assumption
      go_wp2
      go_ret
      refine ⟨rfl, ?_⟩
      show Below _ _ _
      rw [HBe.out]
      exact B2.out.1.trans (Below.mono EF (by have := B2.out.2; omega))

theorem frd_any (v : Value) (d : Dy) (mode : Int) (w : World) (hv : Dg w v d) (hT : Table w) :
    Calls Tryz.prog 84 #[v, .int .i64 mode] w fun r w' => r = .returned (.int .u64 ((frdF d mode : Nat) : Int)) ∧ Ext w w' := by
  cases d with
  | none => exact frd_none v mode w hv hT
  | some p => exact frd_some v p.1 p.2 mode w hv hT
end Go.Proofs.YtjohpdobnedilaaGreatDoor

/- What the laws of floats have in common: contracts over letters. -/
namespace Go.Proofs.YtjohpdobnedilaaGreatDoor
open Go.RowKit

/-- contracts over letters -/
theorem negF_at {a r : Nat} (ha : a < 18446744073709551616) (h : fnegF a = r) (w : World) : Calls Tryz.prog 20 #[.int .u64 (a : Int)] w fun e w' => e = .returned (.int .u64 (r : Int)) ∧ w = w' := by rw [← h]; exact negF_any a ha w
theorem absF_at {a r : Nat} (ha : a < 18446744073709551616) (h : fabsF a = r) (w : World) : Calls Tryz.prog 22 #[.int .u64 (a : Int)] w fun e w' => e = .returned (.int .u64 (r : Int)) ∧ w = w' := by rw [← h]; exact absF_any a ha w
theorem kindF_at {a : Nat} {r : Int} (ha : a < 18446744073709551616) (h : fkind a = r) (w : World) : Calls Tryz.prog 16 #[.int .u64 (a : Int)] w fun e w' => e = .returned (.int .i64 r) ∧ w = w' := by rw [← h]; exact kind_any a ha w
theorem addF_at {a b r : Nat} {mode : Int} (ha : a < 18446744073709551616) (hb : b < 18446744073709551616) (h : faddF a b mode = r) (w : World) : Calls Tryz.prog 57 #[.int .u64 (a : Int), .int .u64 (b : Int), .int .i64 mode] w fun e w' => e = .returned (.int .u64 (r : Int)) ∧ Ext w w' := by rw [← h]; exact fadd_any a b mode ha hb w
theorem mulF_at {a b r : Nat} {mode : Int} (ha : a < 18446744073709551616) (hb : b < 18446744073709551616) (h : fmulF a b mode = r) (w : World) : Calls Tryz.prog 63 #[.int .u64 (a : Int), .int .u64 (b : Int), .int .i64 mode] w fun e w' => e = .returned (.int .u64 (r : Int)) ∧ Ext w w' := by rw [← h]; exact fmul_any a b mode ha hb w
theorem divF_at {a b r : Nat} {mode : Int} (ha : a < 18446744073709551616) (hb : b < 18446744073709551616) (h : fdivF a b mode = r) (w : World) : Calls Tryz.prog 92 #[.int .u64 (a : Int), .int .u64 (b : Int), .int .i64 mode] w fun e w' => e = .returned (.int .u64 (r : Int)) ∧ Ext w w' := by rw [← h]; exact fdiv_any a b mode ha hb w
theorem frd_at {v : Value} {d : Dy} {mode : Int} {r : Nat} {w : World} (hv : Dg w v d) (hT : Table w) (h : frdF d mode = r) : Calls Tryz.prog 84 #[v, .int .i64 mode] w fun e w' => e = .returned (.int .u64 (r : Int)) ∧ Ext w w' := by rw [← h]; exact frd_any v d mode w hv hT
theorem cmpF_at {a b : Nat} (ha : a < 18446744073709551616) (hb : b < 18446744073709551616) {s : Int} {ok : Bool} (h : FcmpOut a b s ok) (w : World) : Calls Tryz.prog 12 #[.int .u64 (a : Int), .int .u64 (b : Int)] w fun e w' => e = .returned (.tuple #[.int .i64 s, .bool ok]) ∧ Ext w w' := fcmp_any a b ha hb s ok h w

theorem flt_of_nan {f : Nat} (h : nanB f = false → f < 18446744073709551616) (h2 : nanB f = true → f < 18446744073709551616) : f < 18446744073709551616 := by
  cases hn : nanB f
  · exact h hn
  · exact h2 hn
theorem fma_lt {a b c : Nat} (mode : Int) (hc : c < 18446744073709551616) : fmaF a b c mode < 18446744073709551616 := by
  have h1 := sgz_le (fneg a != fneg b)
  have h2 := (cancel_num mode).2.1
  have h3 := fun S m => (rsum_num S m mode).2
  unfold fmaF
  repeat' split
  all_goals first | omega | exact h3 _ _
theorem fadd_lt {a b : Nat} (mode : Int) (hb : b < 18446744073709551616) : faddF a b mode < 18446744073709551616 := fma_lt mode hb
theorem fmul_lt {a b : Nat} (mode : Int) : fmulF a b mode < 18446744073709551616 := fma_lt mode (by have := sgz_le (fneg a != fneg b); omega)
theorem fdiv_lt {a b : Nat} (mode : Int) : fdivF a b mode < 18446744073709551616 := by
  have h1 := sgz_le (fneg a != fneg b)
  have h3 := fun N e t => fla_le (fneg a != fneg b) N e t mode
  unfold fdivF
  repeat' split
  all_goals first | omega | (have := h3 (quoX (sig a) / quoY (sig b)) (quoE (sig a) (sig b) (-1074 + (fsh a : Int)) (-1074 + (fsh b : Int))) (decide (quoX (sig a) % quoY (sig b) ≠ 0)); omega)
end Go.Proofs.YtjohpdobnedilaaGreatDoor

/- Comparing two dyads, over letters. -/
namespace Go.Proofs.YtjohpdobnedilaaGreatDoor
open Go.RowKit

/-- what comparing two dyads gives -/
def DcmpIs (d d' : Dy) (c : Int) (ok : Bool) : Prop := (d = none ∨ d' = none) ∧ c = 0 ∧ ok = false ∨ d ≠ none ∧ d' ≠ none ∧ c = sgn3 (sc d) (sc d') ∧ ok = true
theorem dcmpIs_any (d d' : Dy) : ∃ c ok, DcmpIs d d' c ok := by
  cases d with
  | none => exact ⟨0, false, Or.inl ⟨Or.inl rfl, rfl, rfl⟩⟩
  | some p => cases d' with
    | none => exact ⟨0, false, Or.inl ⟨Or.inr rfl, rfl, rfl⟩⟩
    | some q => exact ⟨_, true, Or.inr ⟨by simp, by simp, rfl, rfl⟩⟩
theorem dcmp_at {u v : Value} {d d' : Dy} {w : World} (hu : Dg w u d) (hv : Dg w v d') (hT : Table w) {c : Int} {ok : Bool} (h : DcmpIs d d' c ok) :
    Calls Tryz.prog 95 #[u, v] w fun e w' => e = .returned (.tuple #[.int .i64 c, .bool ok]) ∧ Ext w w' :=
  (dcmp_any u v d d' w hu hv hT).mono fun e w' ⟨he, hw⟩ => by
    refine ⟨?_, hw⟩
    rcases h with ⟨h0, rfl, rfl⟩ | ⟨h1, h2, rfl, rfl⟩
    · rcases he with ⟨_, he⟩ | ⟨h3, h4, _⟩
      · exact he
      · rcases h0 with h0 | h0
        · exact absurd h0 h3
        · exact absurd h0 h4
    · rcases he with ⟨h0, _⟩ | ⟨_, _, he⟩
      · rcases h0 with h0 | h0
        · exact absurd h0 h1
        · exact absurd h0 h2
      · exact he
end Go.Proofs.YtjohpdobnedilaaGreatDoor

/- A float's exact number as a dyad, as plain facts. No program stands here. -/
namespace Go.Proofs.YtjohpdobnedilaaGreatDoor
open Go.RowKit

/-- a float's number -/
def fdy (f : Nat) : Dy := if finB f then dmk (fzs f) (-1074) else none

/-- its parts -/
theorem fdy_parts {f t : Nat} (hf : finB f = true) (h0 : sig f ≠ 0) (ht : IsTz (sig f) t) : fdy f = some (if fneg f then -((sig f / 2 ^ t : Nat) : Int) else ((sig f / 2 ^ t : Nat) : Int), -1074 + (fsh f : Int) + t) ∧ sig f / 2 ^ t < 9007199254740992 ∧ sig f / 2 ^ t ≠ 0 := by
  rcases ht with ⟨h, _⟩ | ⟨_, m, hm⟩
  · exact absurd h h0
  · have hp : 0 < 2 ^ t := Nat.pow_pos (by omega)
    have hd : sig f / 2 ^ t = 2 * m + 1 := by rw [hm, Nat.mul_div_cancel_left _ hp]
    have hlt : sig f / 2 ^ t < 9007199254740992 := Nat.lt_of_le_of_lt (Nat.div_le_self _ _) (sig_lt f)
    refine ⟨?_, hlt, by omega⟩
    rw [hd] at hlt ⊢
    have hfin : fmag f < 9218868437227405312 := of_decide_eq_true hf
    have hsh : fsh f ≤ 2045 := by unfold fsh ffld; omega
    have ht52 : t < 53 := by
      have h1 : 2 ^ t < 2 ^ 53 := by
        have h2 : 2 ^ t ≤ sig f := by rw [hm]; exact Nat.le_mul_of_pos_right _ (by omega)
        exact Nat.lt_of_le_of_lt h2 (sig_lt f)
      exact (Nat.pow_lt_pow_iff_right (by omega)).1 h1
    have hz : fz f = (2 * m + 1) * 2 ^ (t + fsh f) := by rw [Nat.pow_add, ← Nat.mul_assoc, Nat.mul_comm (2 * m + 1), ← hm]; rfl
    have hc : ((fz f : Nat) : Int) = ((2 * m + 1 : Nat) : Int) * 2 ^ (t + fsh f) := by rw [hz, Int.natCast_mul, Int.natCast_pow]; rfl
    have hv : fzs f = (if fneg f then -((2 * m + 1 : Nat) : Int) else ((2 * m + 1 : Nat) : Int)) * 2 ^ (t + fsh f) := by
      unfold fzs
      rw [hc]
      cases fneg f
      · rfl
      · simp only [if_true]; rw [Int.neg_mul]
    have hb : blen (2 * m + 1) ≤ 53 := blen_le_of_lt (show 2 * m + 1 < 2 ^ 53 from hlt)
    unfold fdy
    rw [hf, if_pos rfl, hv, dmk_shift]
    rw [show (-1074 : Int) + ((t + fsh f : Nat) : Int) = -1074 + (fsh f : Int) + t by omega]
    refine dmk_norm (Or.inr ⟨?_, by omega, ?_⟩)
    · split <;> omega
    · have e1 : (if fneg f then -((2 * m + 1 : Nat) : Int) else ((2 * m + 1 : Nat) : Int)).natAbs = 2 * m + 1 := by split <;> omega
      rw [e1]
      omega

theorem fdy_zero {f : Nat} (h : zeroB f = true) : fdy f = some (0, 0) := by
  have h1 : fmag f = 0 := of_decide_eq_true h
  have h2 : fz f = 0 := (fz_zero f).2 h1
  unfold fdy finB fzs
  rw [decide_eq_true (by omega), if_pos rfl, h2]
  have : (if fneg f then -((0 : Nat) : Int) else ((0 : Nat) : Int)) = 0 := by split <;> rfl
  rw [this, dmk_zero]

theorem fz_bound {f : Nat} (h : finB f = true) : fz f < 2 ^ (52 + low46) := by
  rw [Nat.pow_add, ← fz_inf, ← fz_mag f]
  exact fz_lt (of_decide_eq_true h) (Nat.le_refl _)
theorem low46_le : 52 + low46 = 2098 := rfl
theorem fzs_abs (f : Nat) : (fzs f).natAbs = fz f := by unfold fzs; split <;> omega
theorem fdy_is {f : Nat} (h : finB f = true) : Is (fdy f) 1074 (fzs f) := by
  unfold fdy
  rw [h, if_pos rfl]
  exact Is.of_dmk (S := 1074) (B := 52 + low46) (by omega) (by rw [fzs_abs]; exact fz_bound h) (by rw [low46_le]; omega)

/-- two numbers of floats compare as the floats do -/
theorem fin_nan {f : Nat} (h : finB f = true) : nanB f = false := by
  have h1 : fmag f < 9218868437227405312 := of_decide_eq_true h
  exact decide_eq_false (by omega)
theorem fdy_rank {a b : Nat} (ha : finB a = true) (hb : finB b = true) : sgn3 (sc (fdy a)) (sc (fdy b)) = sgn3 (frank a) (frank b) := by
  rw [is_cmp (fdy_is ha) (fdy_is hb) (by omega), ← fs_fzs, ← fs_fzs]
  obtain ⟨h1, h2⟩ := fs_rank (T := 1074) (fin_nan ha) (fin_nan hb)
  unfold sgn3
  by_cases c1 : fs a 1074 < fs b 1074
  · rw [if_pos c1, if_pos (h1.1 c1)]
  · rw [if_neg c1, if_neg (fun h => c1 (h1.2 h))]
    by_cases c2 : fs a 1074 = fs b 1074
    · rw [if_neg (by omega), if_neg (by have := h2.1 c2; omega)]
    · have c3 : frank a ≠ frank b := fun h => c2 (h2.2 h)
      have c4 : ¬ frank a < frank b := fun h => c1 (h1.2 h)
      rw [if_pos (by omega), if_pos (by omega)]
theorem fdy_some {f : Nat} (h : finB f = true) : fdy f ≠ none := by
  obtain ⟨m, e, h1, _⟩ := fdy_is h
  rw [h1]; simp
end Go.Proofs.YtjohpdobnedilaaGreatDoor

/- What float.Of does: the exact number of a float. -/
namespace Go.Proofs.YtjohpdobnedilaaGreatDoor
open Go.RowKit

/-- the table that bits.TrailingZeros64 reads -/
def Table64 (w : World) : Prop := TabAt 0 Lib.deBruijn64tab w
theorem Table64.below {w w' : World} (h : Table64 w) (hb : Below w.heap.size w w') : Table64 w' := by
  intro j hj
  have h1 := h j hj
  rw [hb.cell (p := ⟨_, j, none⟩) (lt_of_cell h1)]
  exact h1

set_option maxRecDepth 100000 in
set_option maxHeartbeats 1000000 in
theorem tz64_at (x k idx : Nat) (w : World) (hx0 : ((x : Int) == 0) = false)
    (key : IntKind.u64.wrap (bits BinOp.and IntKind.u64 (x : Int) (IntKind.u64.wrap (-(x : Int))) * 285870213051353865) / 288230376151711744 = (idx : Int))
    (hi : idx < 64) (hk : k < 64) (hcell : w.cell? ⟨0, idx, none⟩ = some (.int .u8 k)) :
    Calls Tryz.prog 77 #[.int .u64 x] w fun e w' => e = .returned (.int .i64 k) ∧ w = w' := by
  go_enter Tryz.func77, Tryz.ntmps77
  go_wp2_with (simp only [key])
  go_ret
  exact ⟨rfl, rfl⟩

theorem tz64_any (x : Nat) (h0 : x ≠ 0) (h1 : x < 18446744073709551616) (w : World) (hT : Table64 w) :
    Calls Tryz.prog 77 #[.int .u64 x] w fun e w' => ∃ t : Nat, e = .returned (.int .i64 (t : Int)) ∧ IsTz x t ∧ t < 64 ∧ w = w' := by
  obtain ⟨hlow, hk⟩ := Lib.lowest_bit 64 x h0 h1
  obtain ⟨hi, htab⟩ := Lib.deBruijn64_at _ hk
  have hcell := hT _ hi
  rw [htab] at hcell
  refine (tz64_at x _ _ w (by simp; omega) (tz64_key x _ h1 h0 hlow) hi hk hcell).mono fun e w' ⟨he, hw⟩ => ⟨_, he, ?_, hk, hw⟩
  have hc : Lib.ctz 64 x = Lib.ctzFrom 64 x := by unfold Lib.ctz; rw [if_neg h0]
  obtain ⟨m, hm, hlt⟩ := Lib.ctzFrom_spec 64 x (by omega) (by omega)
  rw [hc]
  exact Or.inr ⟨h0, m, hm⟩

set_option maxRecDepth 100000 in
set_option maxHeartbeats 4000000 in
theorem fof_any (f : Nat) (hf : f < 18446744073709551616) (w : World) (hT : Table64 w) :
    Calls Tryz.prog 25 #[.int .u64 (f : Int)] w fun e w' => ∃ v, e = .returned v ∧ Dn w' v (fdy f) ∧ Ext w w' := by
  have CF := Lib.hid (fun w => isFinite_any f hf w)
  have CZ := Lib.hid (fun w => isZero_any f hf w)
  have CS := Lib.hid (fun w => fsplit_any f hf w)
  have CN := Lib.hid (fun w => isNegative_any f hf w)
  have HT := Lib.hid hT
  clear hT
  cases hfin : finB f with
  | false =>
    rw [hfin] at CF
    have HD := Lib.hid (show fdy f = none by unfold fdy; rw [hfin]; rfl)
    clear hfin
    go_enter Tryz.func25, Tryz.ntmps25
    go_upto_region 1 with fail
    obtain ⟨W, hW, hB, r1, hz⟩ := dbox_new w false false none 0 0 0
    rw [← hW]
    clear hW
    generalize hBe : w.heap.size = B at *
    have HBe := Lib.hid hBe
    clear hBe hz
    go_wp2_with fail
    refine (CF.out _).mono ?_
    rintro e w1 ⟨rfl, rfl⟩
    have q0 := r1.c0
    have q1 := r1.c1
    have q2 := r1.c2
    have q3 := r1.c3
    have f0 := r1.f 0
    have f1 := r1.f 1
    have f2 := r1.f 2
    have f3 := r1.f 3
    have hres := dn_stored r1 (dn_bad W) w hB (Nat.le_refl _)
    have z3 := r1.stored true false none 0 0 0
    have z0 := z3.c0
    have z1 := z3.c1
    have z2 := z3.c2
    have z4 := z3.c3
    have HRES := Lib.hid hres; clear hres z3
    go_wp2
    refine bodyPost_ret (v := .agg #[.bool true, .bool false, .slice none 0 0, .int .i64 0]) (by simp [results, Tryz.results25, go_sem, z0, z1, z2, z4]) rfl ⟨_, rfl, ?_, ?_⟩
    · rw [HD.out]; exact HRES.out.1
    · show Below _ _ _; rw [HBe.out]; exact HRES.out.2
  | true =>
    rw [hfin] at CF
    cases hzr : zeroB f with
    | true =>
      rw [hzr] at CZ
      have HD := Lib.hid (fdy_zero hzr)
      clear hfin hzr
      go_enter Tryz.func25, Tryz.ntmps25
      go_upto_region 1 with fail
      obtain ⟨W, hW, hB, r1, hz⟩ := dbox_new w false false none 0 0 0
      rw [← hW]
      clear hW
      generalize hBe : w.heap.size = B at *
      have HBe := Lib.hid hBe
      clear hBe hz
      go_wp2_with fail
      refine (CF.out _).mono ?_
      rintro e w1 ⟨rfl, rfl⟩
      go_wp2_with fail
      refine (CZ.out _).mono ?_
      rintro e w1 ⟨rfl, rfl⟩
      have q0 := r1.c0
      have q1 := r1.c1
      have q2 := r1.c2
      have q3 := r1.c3
      have f0 := r1.f 0
      have f1 := r1.f 1
      have f2 := r1.f 2
      have f3 := r1.f 3
      have hres := dn_stored r1 (dn_zero W) w hB (Nat.le_refl _)
      have z3 := r1.stored false false none 0 0 0
      have z0 := z3.c0
      have z1 := z3.c1
      have z2 := z3.c2
      have z4 := z3.c3
      have HRES := Lib.hid hres; clear hres z3
      go_wp2
      refine bodyPost_ret (v := .agg #[.bool false, .bool false, .slice none 0 0, .int .i64 0]) (by simp [results, Tryz.results25, go_sem, z0, z1, z2, z4]) rfl ⟨_, rfl, ?_, ?_⟩
      · rw [HD.out]; exact HRES.out.1
      · show Below _ _ _; rw [HBe.out]; exact HRES.out.2
    | false =>
      rw [hzr] at CZ
      have hs0 : sig f ≠ 0 := fun h => by have h1 := (sig_zero f).1 h; unfold zeroB at hzr; rw [h1] at hzr; simp at hzr
      have hsl := sig_lt f
      have hsh : fsh f ≤ 2045 := by have h1 : fmag f < 9218868437227405312 := of_decide_eq_true hfin; unfold fsh ffld; omega
      have CT := Lib.hid (fun w (h : Table64 w) => tz64_any (sig f) hs0 (by omega) w h)
      have HP := Lib.hid (fun t (ht : IsTz (sig f) t) => fdy_parts hfin hs0 ht)
      clear hfin hzr hs0
      have HND := Lib.hid (show Nd (fdy f) by unfold fdy; split; exact dmk_nd _ _; trivial)
      generalize fdy f = d at *
      generalize fsh f = sh at *
      generalize sig f = z at *
      obtain ⟨ng, hng⟩ : ∃ ng, fneg f = ng := ⟨_, rfl⟩
      rw [hng] at HP CN
      clear hng
      go_enter Tryz.func25, Tryz.ntmps25
      go_upto_region 1 with fail
      obtain ⟨W, hW, hB, r1, hz⟩ := dbox_new w false false none 0 0 0
      rw [← hW]
      clear hW
      have HTW := Lib.hid (HT.out.below hB)
      generalize hBe : w.heap.size = B at *
      have HBe := Lib.hid hBe
      clear hBe
      go_wp2_with fail
      refine (CF.out _).mono ?_
      rintro e w1 ⟨rfl, rfl⟩
      go_wp2_with fail
      refine (CZ.out _).mono ?_
      rintro e w1 ⟨rfl, rfl⟩
      go_wp2_with fail
      refine (CS.out _).mono ?_
      rintro e w2 ⟨rfl, hE⟩
      have r2 := r1.below hE
      have b2 : Below B w w2 := hB.trans (Below.mono hE (by omega))
      have ht2 := HTW.out.below hE
      have hs2 := Below.size hE
      clear r1 hB hE
      go_upto_region 6 with fail
      obtain ⟨V, hV, hC, x3, hz3⟩ := nbox_new w2 0 (z : Int) (-1074 + (sh : Int)) false
      rw [← hV]
      clear hV
      have r3 := r2.below hC
      have b3 : Below B w V := b2.trans (Below.mono hC (by omega))
      have HT3 := Lib.hid (ht2.below hC)
      have hBC : B ≠ w2.heap.size := by omega
      generalize w2.heap.size = C at *
      clear r2 b2 ht2 hs2 hC hz3 hz
      have c1 := x3.c1
      have c2 := x3.c2
      go_wp2_with fail
      refine (CT.out _ HT3.out).mono ?_
      rintro e w3 ⟨t, rfl, ht, ht64, rfl⟩
      obtain ⟨hd, hm1, hm0⟩ := HP.out t ht
      have hsr : (z : Int) / 2 ^ t = ((z / 2 ^ t : Nat) : Int) := (cast_divpow _ _).symm
      generalize z / 2 ^ t = y at *
      have hwy : IntKind.i64.wrap (y : Int) = (y : Int) := by rw [IntKind.wrap_i64]; omega
      have HDD := Lib.hid hd
      have HT3 := Lib.hid ht
      clear hd HP ht
      have hsum : IntKind.i64.wrap (-1074 + (sh : Int) + (t : Int)) = -1074 + (sh : Int) + (t : Int) := by rw [IntKind.wrap_i64]; omega
      cases ng with
      | false =>
        simp only [Bool.false_eq_true, if_false] at HDD
        go_wp2_with fail
        refine (CN.out _).mono ?_
        rintro e w4 ⟨rfl, rfl⟩
        go_upto_region 10 with fail
        go_region_with (go_at_call 79; refine (fromInt_any ((y : Int)) _ (by omega) (by omega)).mono ?_; rintro e w5 ⟨nr, ro, k, cr, rfl, hbn, hE5⟩; have x5 := (NBox.drew x3).below hE5; have r5 := (DBox.drew r3).below hE5; have b5 : Below B w w5 := Below.trans (Below.drew b3) (Below.mono hE5 (by have := r3.lt; simp; omega)); have c1 := x5.c1; have c2 := x5.c2; have f0 := r5.f 0; have f1 := r5.f 1; have f2 := r5.f 2; have f3 := r5.f 3; have q0 := r5.c0; have q1 := r5.c1; have q2 := r5.c2; have q3 := r5.c3)
        all_goals
          have hdn : Dn w5 (.agg #[.bool false, .bool nr, .slice ro k cr, .int .i64 (-1074 + (sh : Int) + (t : Int))]) d := by
            rw [HDD.out]
            refine Dn.put (by rw [← HDD.out]; exact HND.out) rfl rfl hbn
          have hres := dn_stored r5 hdn w b5 (Nat.le_refl _)
          have z3 := r5.stored false nr ro k cr (-1074 + (sh : Int) + (t : Int))
          have z0 := z3.c0
          have z1 := z3.c1
          have z2 := z3.c2
          have z4 := z3.c3
          have HRES := Lib.hid hres
          clear hres z3 hdn c1 c2 x5 r5 b5
          go_wp2
          refine bodyPost_ret (v := .agg #[.bool false, .bool nr, .slice ro k cr, .int .i64 (-1074 + (sh : Int) + (t : Int))]) (by simp [results, Tryz.results25, go_sem, z0, z1, z2, z4]) rfl ⟨_, rfl, ?_, ?_⟩
          · exact HRES.out.1
          · show Below _ _ _
            rw [HBe.out]
            exact HRES.out.2
      | true =>
        simp only [if_true] at HDD
        go_wp2_with fail
        refine (CN.out _).mono ?_
        rintro e w4 ⟨rfl, rfl⟩
        go_upto_region 10 with fail
        go_region_with (go_at_call 79; refine (fromInt_any (-(y : Int)) _ (by omega) (by omega)).mono ?_; rintro e w5 ⟨nr, ro, k, cr, rfl, hbn, hE5⟩; have x5 := (NBox.drew x3).below hE5; have r5 := (DBox.drew r3).below hE5; have b5 : Below B w w5 := Below.trans (Below.drew b3) (Below.mono hE5 (by have := r3.lt; simp; omega)); have c1 := x5.c1; have c2 := x5.c2; have f0 := r5.f 0; have f1 := r5.f 1; have f2 := r5.f 2; have f3 := r5.f 3; have q0 := r5.c0; have q1 := r5.c1; have q2 := r5.c2; have q3 := r5.c3)
        all_goals
          have hdn : Dn w5 (.agg #[.bool false, .bool nr, .slice ro k cr, .int .i64 (-1074 + (sh : Int) + (t : Int))]) d := by
            rw [HDD.out]
            refine Dn.put (by rw [← HDD.out]; exact HND.out) rfl rfl hbn
          have hres := dn_stored r5 hdn w b5 (Nat.le_refl _)
          have z3 := r5.stored false nr ro k cr (-1074 + (sh : Int) + (t : Int))
          have z0 := z3.c0
          have z1 := z3.c1
          have z2 := z3.c2
          have z4 := z3.c3
          have HRES := Lib.hid hres
          clear hres z3 hdn c1 c2 x5 r5 b5
          go_wp2
          refine bodyPost_ret (v := .agg #[.bool false, .bool nr, .slice ro k cr, .int .i64 (-1074 + (sh : Int) + (t : Int))]) (by simp [results, Tryz.results25, go_sem, z0, z1, z2, z4]) rfl ⟨_, rfl, ?_, ?_⟩
          · exact HRES.out.1
          · show Below _ _ _
            rw [HBe.out]
            exact HRES.out.2
end Go.Proofs.YtjohpdobnedilaaGreatDoor

/- The exact numbers of floats: comparisons, products. -/
namespace Go.Proofs.YtjohpdobnedilaaGreatDoor
open Go.RowKit

theorem fof_at {f : Nat} {d : Dy} (hf : f < 18446744073709551616) (h : fdy f = d) (w : World) (hT : Table64 w) : Calls Tryz.prog 25 #[.int .u64 (f : Int)] w fun e w' => ∃ v, e = .returned v ∧ Dn w' v d ∧ Ext w w' := by rw [← h]; exact fof_any f hf w hT
theorem is_dcmpS {d d' : Dy} {S : Nat} {N N' : Int} (h : Is d S N) (h' : Is d' S N') (hS : S ≤ 65536) : DcmpIs d d' (sgn3 N N') true := by
  have h1 := is_cmp h h' hS
  refine Or.inr ⟨?_, ?_, h1.symm, rfl⟩
  · obtain ⟨m, e, h2, _⟩ := h; rw [h2]; simp
  · obtain ⟨m, e, h2, _⟩ := h'; rw [h2]; simp
theorem fdy_small (f : Nat) : blen (dm (fdy f)).natAbs ≤ 3100 := by
  cases hf : finB f
  · rw [show fdy f = none by unfold fdy; rw [hf]; rfl]; simp [dm, blen]
  · cases hz : zeroB f
    · have h0 : sig f ≠ 0 := fun h => by have h1 := (sig_zero f).1 h; unfold zeroB at hz; rw [h1] at hz; simp at hz
      obtain ⟨h1, h2, _⟩ := fdy_parts hf h0 (tzf_isTz (sig f))
      rw [h1]
      have h3 : (dm (some (if fneg f then -((sig f / 2 ^ tzf (sig f) : Nat) : Int) else ((sig f / 2 ^ tzf (sig f) : Nat) : Int), -1074 + (fsh f : Int) + tzf (sig f)))).natAbs = sig f / 2 ^ tzf (sig f) := by
        show (if fneg f then -((sig f / 2 ^ tzf (sig f) : Nat) : Int) else ((sig f / 2 ^ tzf (sig f) : Nat) : Int)).natAbs = _
        cases fneg f
        · exact Int.natAbs_natCast _
        · show (-((sig f / 2 ^ tzf (sig f) : Nat) : Int)).natAbs = _
          rw [Int.natAbs_neg, Int.natAbs_natCast]
      rw [h3]
      exact Nat.le_trans (blen_le_of_lt (k := 53) h2) (by omega)
    · rw [fdy_zero hz]; simp [dm, blen]

/-- products of floats, exactly -/
theorem fdy_mul {f g : Nat} (hf : finB f = true) (hg : finB g = true) : Is (dmul (fdy f) (fdy g)) (1074 + 1074) (fzs f * fzs g) := by
  have b1 := fz_bound hf
  have b2 := fz_bound hg
  rw [← fzs_abs] at b1 b2
  exact (fdy_is hf).mul (fdy_is hg) (by omega) (abs_mul_lt b1 b2) (by rw [low46_le]; omega)
theorem fdy_up {f : Nat} (hf : finB f = true) : Is (fdy f) (1074 + 1074) (fzs f * 2 ^ low74) := (fdy_is hf).up 1074

theorem pos_fzs {f : Nat} (h : fneg f = false) : fzs f = (fz f : Int) := by unfold fzs; rw [h]; rfl
end Go.Proofs.YtjohpdobnedilaaGreatDoor
