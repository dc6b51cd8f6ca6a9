import Derived.Test.YtapcecjbmcoliaaGreatDoorACauU2
import Derived.Laws.Bits64
import Derived.Laws.Bits64b
import Derived.Deep.QuietTactic
import Derived.BigQuiet
import Derived.Test.YtapcecjbmcoliaaGreatDoorACauU3
import Derived.Shelf.Small.Bits
import Derived.Test.YtapcecjbmcoliaaGreatDoorProg
import Derived.Test.YtapcecjbmcoliaaGreatDoorACauU9
import Derived.Test.YtapcecjbmcoliaaGreatDoorACauU10
import Derived.Test.YtapcecjbmcoliaaGreatDoorACauU7
import Derived.Test.YtapcecjbmcoliaaGreatDoorACauU8
import Derived.Test.YtapcecjbmcoliaaGreatDoorACauU5
import Derived.RegionTactic
import Derived.ChangeAlike
import Derived.BigRegion
namespace Go.Proofs.YtapcecjbmcoliaaGreatDoor
open Go.RowKit

theorem trim_zs {w : World} {ao : Option Addr} {n cap : Nat} {zs : List Int} (h : Sl w ao n cap zs) (a : Nat) (e : (num zs).toNat = a) :
    ∃ k, k ≤ n ∧ Sl w ao k cap (limbs a) ∧ ∀ W, Sl W ao n cap zs → Calls Tryz.prog 46 #[.slice ao n cap] W fun e w' => e = .returned (.slice ao k cap) ∧ W = w' := by
  subst e; exact trim_at _ _ _ _ _ h

end Go.Proofs.YtapcecjbmcoliaaGreatDoor

namespace Go.Proofs
open Go.Shelf
def Tryz.lays128_ren : Go.Shelf.Ren := ⟨fun | 128 => 103 | n => n, fun | 51 => 47 | 3 => 3 | 4 => 4 | 46 => 62 | 5 => 5 | 9 => 9 | n => n, fun | n => n⟩
theorem Tryz.lays128 : Go.Proofs.Lays.n128 Tryz.prog Tryz.lays128_ren := {
  mixed := by kernel_rfl
  f128 := Tryz.func103.trans (congrArg some (by kernel_rfl))
  t3 := Tryz.underlying3
  a3 := Tryz.isAgg3
  z3 := Tryz.sizeOf3
  v3 := Tryz.zeroValue3
  t4 := Tryz.underlying4
  a4 := Tryz.isAgg4
  z4 := Tryz.sizeOf4
  v4 := Tryz.zeroValue4
  t5 := Tryz.underlying5
  a5 := Tryz.isAgg5
  z5 := Tryz.sizeOf5
  v5 := Tryz.zeroValue5
  t9 := Tryz.underlying9
  a9 := Tryz.isAgg9
  z9 := Tryz.sizeOf9
  v9 := Tryz.zeroValue9
  t46 := Tryz.underlying62
  a46 := Tryz.isAgg62
  z46 := Tryz.sizeOf62
  v46 := Tryz.zeroValue62
  t51 := Tryz.underlying47
  a51 := Tryz.isAgg47
  z51 := Tryz.sizeOf47
  v51 := Tryz.zeroValue47 }
theorem Tryz.bits_Len32 (x : Int) (w : World) (h0 : 0 ≤ x) (h1 : x ≤ 4294967295) :
    Calls Tryz.prog 103 #[.int .u32 x] w fun e w' => e = .returned (.int .i64 (Lib.bitLen x.toNat)) ∧ w' = w := Any.bits_Len32 Tryz.lays128 x w h0 h1
def Tryz.lays125_ren : Go.Shelf.Ren := ⟨fun | 125 => 70 | 128 => 103 | 129 => 104 | n => n, fun | 46 => 62 | 3 => 3 | 51 => 47 | 53 => 40 | 4 => 4 | 5 => 5 | 9 => 9 | n => n, fun | n => n⟩
theorem Tryz.lays125 : Go.Proofs.Lays.n125 Tryz.prog Tryz.lays125_ren := {
  mixed := by kernel_rfl
  f125 := Tryz.func70.trans (congrArg some (by kernel_rfl))
  f128 := Tryz.func103.trans (congrArg some (by kernel_rfl))
  f129 := Tryz.func104.trans (congrArg some (by kernel_rfl))
  t3 := Tryz.underlying3
  a3 := Tryz.isAgg3
  z3 := Tryz.sizeOf3
  v3 := Tryz.zeroValue3
  t4 := Tryz.underlying4
  a4 := Tryz.isAgg4
  z4 := Tryz.sizeOf4
  v4 := Tryz.zeroValue4
  t5 := Tryz.underlying5
  a5 := Tryz.isAgg5
  z5 := Tryz.sizeOf5
  v5 := Tryz.zeroValue5
  t9 := Tryz.underlying9
  a9 := Tryz.isAgg9
  z9 := Tryz.sizeOf9
  v9 := Tryz.zeroValue9
  t46 := Tryz.underlying62
  a46 := Tryz.isAgg62
  z46 := Tryz.sizeOf62
  v46 := Tryz.zeroValue62
  t51 := Tryz.underlying47
  a51 := Tryz.isAgg47
  z51 := Tryz.sizeOf47
  v51 := Tryz.zeroValue47
  t53 := Tryz.underlying40
  a53 := Tryz.isAgg40
  z53 := Tryz.sizeOf40
  v53 := Tryz.zeroValue40 }
theorem Tryz.bits_Len (x : Int) (w : World) (h0 : 0 ≤ x) (h1 : x ≤ 18446744073709551615) :
    Calls Tryz.prog 70 #[.int .u64 x] w fun e w' => e = .returned (.int .i64 (Lib.bitLen x.toNat)) ∧ w' = w := Any.bits_Len Tryz.lays125 x w h0 h1
end Go.Proofs

namespace Go.Proofs.YtapcecjbmcoliaaGreatDoor
open Go.RowKit

theorem bitLen_zero : Lib.bitLen 0 = 0 := by unfold Lib.bitLen; unfold Lib.bitLenAux; simp

theorem bitLen_spec (x : Nat) (h0 : x ≠ 0) (h : x < 2 ^ 64) : ∃ l, Lib.bitLen x = l + 1 ∧ 2 ^ l ≤ x ∧ x < 2 ^ (l + 1) := by
  induction x using Nat.strongRecOn with
  | _ x ih =>
    by_cases h1 : x / 2 = 0
    · refine ⟨0, ?_, by omega, by omega⟩
      rw [Lib.bitLen_half x h0 h, h1, bitLen_zero]
    · obtain ⟨l, e, l0, l1⟩ := ih (x / 2) (by omega) h1 (by omega)
      refine ⟨l + 1, ?_, ?_, ?_⟩
      · rw [Lib.bitLen_half x h0 h, e]; omega
      · rw [Nat.pow_succ]; omega
      · rw [Nat.pow_succ] at l1 ⊢; omega

end Go.Proofs.YtapcecjbmcoliaaGreatDoor

namespace Go.Proofs.YtapcecjbmcoliaaGreatDoor
open Go.RowKit

set_option maxRecDepth 100000 in
set_option maxHeartbeats 1000000 in
theorem fsplit_any (f : Nat) (hf : f < 18446744073709551616) (w : World) :
    Calls Tryz.prog 41 #[.int .u64 (f : Int)] w fun e w' => e = .returned (.agg #[.int .u64 0, .int .u64 ((sig f : Nat) : Int), .int .i64 (-1074 + (fsh f : Int)), .bool false]) ∧ Ext w w' := by
  have ha := andNot_sign hf
  have hb := and_frac hf
  have hm := fmag_lt f
  have hfr : f % 4503599627370496 = fmag f % 4503599627370496 := by unfold fmag; omega
  rw [hfr] at hb
  have hd : ((fmag f : Nat) : Int) / 4503599627370496 = ((ffld f : Nat) : Int) := by unfold ffld; omega
  have hq : ffld f < 2048 := by unfold ffld; omega
  have ho := or_hidden (a := fmag f % 4503599627370496) (by omega)
  by_cases h0 : ffld f = 0
  · have e1 : sig f = fmag f % 4503599627370496 := by unfold sig; rw [if_pos h0]; unfold ffld at h0; omega
    have e2 : fsh f = 0 := by unfold fsh; omega
    rw [e1, e2]
    rw [h0] at hd
    clear e1 e2 h0 ho hq hfr
    generalize fmag f % 4503599627370496 = r at *
    generalize fmag f = m at *
    go_enter Tryz.func41, Tryz.ntmps41
    go_wp2
    exact bodyPost_ret (v := .agg #[.int .u64 0, .int .u64 r, .int .i64 (-1074), .bool false]) (by simp [results, Tryz.results41, go_sem]) rfl ⟨rfl, (Below.refl _ _).alloc (Nat.le_refl _) _⟩
  · have e1 : sig f = fmag f % 4503599627370496 + 4503599627370496 := by unfold sig; rw [if_neg h0]
    obtain ⟨k, hk⟩ : ∃ k, ffld f = k + 1 := ⟨ffld f - 1, by omega⟩
    have e2 : fsh f = k := by unfold fsh; omega
    rw [e1, e2]
    rw [hk] at hd hq
    clear e1 e2 h0 hfr hk
    generalize fmag f % 4503599627370496 + 4503599627370496 = z at *
    generalize fmag f % 4503599627370496 = r at *
    generalize fmag f = m at *
    obtain ⟨q, hqq⟩ : ∃ q : Int, ((k + 1 : Nat) : Int) = q := ⟨_, rfl⟩
    rw [hqq] at hd
    have q0 : 0 < q := by omega
    have q1 : q < 2048 := by omega
    have q2 : -1074 + (k : Int) = -1074 + (q - 1) := by omega
    have Q2 := Lib.hid q2
    clear q2 hqq hq
    go_enter Tryz.func41, Tryz.ntmps41
    go_wp2
    exact bodyPost_ret (v := .agg #[.int .u64 0, .int .u64 z, .int .i64 (-1074 + (q - 1)), .bool false]) (by simp [results, Tryz.results41, go_sem]) rfl ⟨by rw [Q2.out], (Below.refl _ _).alloc (Nat.le_refl _) _⟩

theorem cast_pow2 (k : Nat) : ((2 ^ k : Nat) : Int) = 2 ^ k := by rw [Int.natCast_pow]; rfl
theorem cast_mulpow (a k : Nat) : ((a * 2 ^ k : Nat) : Int) = (a : Int) * 2 ^ k := by rw [Int.natCast_mul, cast_pow2]
theorem cast_divpow (a k : Nat) : ((a / 2 ^ k : Nat) : Int) = (a : Int) / 2 ^ k := by rw [← cast_pow2]; exact Int.natCast_ediv _ _
theorem cast_modpow (a k M : Nat) : ((a * 2 ^ k % M : Nat) : Int) = (a : Int) * 2 ^ k % (M : Int) := by rw [Int.natCast_emod, cast_mulpow]
theorem wrap_nat {a : Nat} (h : a < 18446744073709551616) : IntKind.u64.wrap (a : Int) = (a : Int) := by rw [IntKind.wrap_u64]; omega
theorem norm_words {hi lo k : Nat} (hlo : lo < 18446744073709551616) (hk : k ≤ 64) (hb : hi < 2 ^ (64 - k)) :
    (hi * 2 ^ k + lo / 2 ^ (64 - k)) * 18446744073709551616 + lo * 2 ^ k % 18446744073709551616 = (hi * 18446744073709551616 + lo) * 2 ^ k ∧ hi * 2 ^ k + lo / 2 ^ (64 - k) < 18446744073709551616 ∧ lo / 2 ^ (64 - k) < 2 ^ k ∧ hi * 2 ^ k < 18446744073709551616 := by
  have e : (18446744073709551616 : Nat) = 2 ^ (64 - k) * 2 ^ k := by rw [← Nat.pow_add, show 64 - k + k = 64 by omega]
  have hp : 0 < 2 ^ (64 - k) := Nat.pow_pos (by omega)
  have hq : 0 < 2 ^ k := Nat.pow_pos (by omega)
  have e1 : lo * 2 ^ k / 18446744073709551616 = lo / 2 ^ (64 - k) := by rw [e, Nat.mul_div_mul_right _ _ hq]
  have e2 : lo / 2 ^ (64 - k) < 2 ^ k := by rw [Nat.div_lt_iff_lt_mul hp, Nat.mul_comm, ← e]; exact hlo
  have e3 : hi * 2 ^ k + 2 ^ k ≤ 18446744073709551616 := by
    have := Nat.mul_le_mul_right (2 ^ k) (show hi + 1 ≤ 2 ^ (64 - k) from hb)
    rwa [Nat.add_mul, Nat.one_mul, ← e] at this
  have e4 := Nat.div_add_mod (lo * 2 ^ k) 18446744073709551616
  rw [e1] at e4
  refine ⟨?_, by omega, e2, by omega⟩
  rw [Nat.add_mul, Nat.add_mul (hi * 18446744073709551616), Nat.mul_right_comm hi (2 ^ k), Nat.add_assoc, Nat.mul_comm (lo / 2 ^ (64 - k)), e4]

theorem lz_any {x k : Nat} (h0 : 2 ^ (63 - k) ≤ x) (h1 : x < 2 ^ (64 - k)) (hk : k ≤ 63) (w : World) :
    Calls Tryz.prog 117 #[.int .u64 x] w fun e w' => e = .returned (.int .i64 (k : Int)) ∧ w = w' := by
  have hx : x < 2 ^ 64 := Nat.lt_of_lt_of_le h1 (Nat.pow_le_pow_right (by omega) (by omega))
  have hx0 : x ≠ 0 := by have := Nat.pow_pos (n := 63 - k) (show 0 < 2 by omega); omega
  obtain ⟨l, hl, l1, l2⟩ := bitLen_spec x hx0 hx
  have e : l = 63 - k := by
    have a1 := (Nat.pow_lt_pow_iff_right (show 1 < 2 by omega)).1 (Nat.lt_of_le_of_lt l1 h1)
    have a2 := (Nat.pow_lt_pow_iff_right (show 1 < 2 by omega)).1 (Nat.lt_of_le_of_lt h0 l2)
    omega
  refine (Tryz.bits_LeadingZeros64 (x : Int) w (by omega) (by omega)).mono ?_
  rintro e w' ⟨rfl, rfl⟩
  refine ⟨?_, rfl⟩
  rw [Int.toNat_natCast, hl]
  congr 2
  omega

set_option maxRecDepth 100000 in
set_option maxHeartbeats 2000000 in
theorem fnormal_hi (hi lo k : Nat) (e : Int) (t : Bool) (h0 : 2 ^ (63 - k) ≤ hi) (h1 : hi < 2 ^ (64 - k)) (hk : k ≤ 63) (hlo : lo < 18446744073709551616) (he0 : -1000000000000 ≤ e) (he1 : e ≤ 1000000000000) (w : World) :
    Calls Tryz.prog 118 #[.agg #[.int .u64 (hi : Int), .int .u64 (lo : Int), .int .i64 e, .bool t]] w fun r w' => r = .returned (.agg #[.int .u64 ((hi * 2 ^ k + lo / 2 ^ (64 - k) : Nat) : Int), .int .u64 ((lo * 2 ^ k % 18446744073709551616 : Nat) : Int), .int .i64 (e - k), .bool t]) ∧ Ext w w' := by
  obtain ⟨-, hb, hc, hd⟩ := norm_words hlo (show k ≤ 64 by omega) h1
  have hi0 : ((hi : Int) == 0) = false := by
    have := Nat.pow_pos (n := 63 - k) (show 0 < 2 by omega)
    rw [beq_eq_false_iff_ne]; omega
  have CL := Lib.hid (lz_any h0 h1 hk)
  clear h0 h1
  have hs1 : IntKind.u64.wrap ((hi : Int) * 2 ^ k) = ((hi * 2 ^ k : Nat) : Int) := by rw [← cast_mulpow]; exact wrap_nat hd
  have hs2 : (lo : Int) / 2 ^ (64 - k) = ((lo / 2 ^ (64 - k) : Nat) : Int) := (cast_divpow _ _).symm
  have hs3 := or_add hc hb
  have hs4 : IntKind.u64.wrap ((lo : Int) * 2 ^ k) = ((lo * 2 ^ k % 18446744073709551616 : Nat) : Int) := by rw [IntKind.wrap_u64]; exact (cast_modpow lo k 18446744073709551616).symm
  have hs5 : (lo : Int) * 2 ^ k % 18446744073709551616 = ((lo * 2 ^ k % 18446744073709551616 : Nat) : Int) := (cast_modpow lo k 18446744073709551616).symm
  have hk3 : e - (k : Int) = e - k := rfl
  generalize hi * 2 ^ k + lo / 2 ^ (64 - k) = Y at *
  generalize hi * 2 ^ k = A at *
  generalize lo / 2 ^ (64 - k) = X at *
  generalize lo * 2 ^ k % 18446744073709551616 = Z at *
  clear hc hb hd hk3
  have k0 : (0 : Int) ≤ (k : Int) := by omega
  have k1 : (0 : Int) ≤ 64 - (k : Int) := by omega
  have k2 : (k : Int) ≤ 64 := by omega
  go_enter Tryz.func118, Tryz.ntmps118
  go_upto_region 1 with fail
  obtain ⟨W, hW, hB, hx, hr, hz⟩ := boxes_nn w hi lo e t 0 0 0 false
  rw [← hW]
  clear hW
  generalize hBe : w.heap.size = B at *
  have HBe := Lib.hid hBe
  clear hBe
  have c0 := hx.c0
  have c1 := hx.c1
  have c2 := hx.c2
  have c3 := hx.c3
  have g0 := hx.f 0
  have g1 := hx.f 1
  have g2 := hx.f 2
  have g3 := hx.f 3
  go_wp2_with (refine (CL.out _).mono ?_; rintro e w' ⟨rfl, rfl⟩)
  go_region
  go_upto_region 7 with fail
  obtain ⟨W1, hW1, x1, r1, b1⟩ : ∃ W1, (((W.setCell ⟨B, 0, none⟩ (.int .u64 Y)).setCell ⟨B, 1, none⟩ (.int .u64 Z)).setCell ⟨B, 2, none⟩ (.int .i64 (e - k))).drew = W1 ∧ NBox W1 B Y Z (e - k) t ∧ NBox W1 (B + 1) 0 0 0 false ∧ Below B w W1 :=
    ⟨_, rfl, (hx.stored012 Y Z (e - k)).drew, (hr.only (only_nset3 _ _ _ _ _) (by omega)).drew, (hB.trans ((only_nset3 _ _ _ _ _).below (Nat.le_refl _))).drew⟩
  rw [hW1]
  clear hW1 hx hr hB c0 c1 c2 c3 g0 g1 g2 g3 hz hs1 hs2 hs3 hs4 hs5
  have c0 := x1.c0
  have c1 := x1.c1
  have c2 := x1.c2
  have c3 := x1.c3
  have q0 := r1.c0
  have q1 := r1.c1
  have q2 := r1.c2
  have q3 := r1.c3
  have p0 := r1.f 0
  have p1 := r1.f 1
  have p2 := r1.f 2
  have p3 := r1.f 3
  have z := r1.stored Y Z (e - k) t
  have z0 := z.c0
  have z1 := z.c1
  have z2 := z.c2
  have z3 := z.c3
  have B1 := Lib.hid (b1.trans ((only_nset4 W1 (B + 1) (.int .u64 Y) (.int .u64 Z) (.int .i64 (e - k)) (.bool t)).below (B := B) (by omega)))
  clear z x1 r1 b1
  go_wp2
  refine bodyPost_ret (v := .agg #[.int .u64 Y, .int .u64 Z, .int .i64 (e - k), .bool t]) (by simp [results, Tryz.results118, go_sem, z0, z1, z2, z3]) rfl ⟨rfl, ?_⟩
  show Below _ _ _
  rw [HBe.out]
  exact B1.out

set_option maxRecDepth 100000 in
set_option maxHeartbeats 2000000 in
theorem fnormal_lo (lo k : Nat) (e : Int) (t : Bool) (h0 : 2 ^ (63 - k) ≤ lo) (h1 : lo < 2 ^ (64 - k)) (hk : k ≤ 63) (he0 : -1000000000000 ≤ e) (he1 : e ≤ 1000000000000) (w : World) :
    Calls Tryz.prog 118 #[.agg #[.int .u64 0, .int .u64 (lo : Int), .int .i64 e, .bool t]] w fun r w' => r = .returned (.agg #[.int .u64 ((lo * 2 ^ k : Nat) : Int), .int .u64 0, .int .i64 (e - 64 - k), .bool t]) ∧ Ext w w' := by
  obtain ⟨-, -, -, hd⟩ := norm_words (lo := 0) (by omega) (show k ≤ 64 by omega) h1
  have CL := Lib.hid (lz_any h0 h1 hk)
  clear h0 h1
  have hs1 : IntKind.u64.wrap ((lo : Int) * 2 ^ k) = ((lo * 2 ^ k : Nat) : Int) := by rw [← cast_mulpow]; exact wrap_nat hd
  have hs3 : bits BinOp.or IntKind.u64 ((lo * 2 ^ k : Nat) : Int) 0 = ((lo * 2 ^ k : Nat) : Int) := by
    have := or_add (a := lo) (b := 0) (k := k) (Nat.pow_pos (by omega)) (by omega)
    exact this
  generalize lo * 2 ^ k = A at *
  clear hd
  have k0 : (0 : Int) ≤ (k : Int) := by omega
  have k1 : (0 : Int) ≤ 64 - (k : Int) := by omega
  have k2 : (k : Int) ≤ 64 := by omega
  go_enter Tryz.func118, Tryz.ntmps118
  go_upto_region 1 with fail
  obtain ⟨W, hW, hB, hx, hr, hz⟩ := boxes_nn w 0 lo e t 0 0 0 false
  rw [← hW]
  clear hW
  generalize hBe : w.heap.size = B at *
  have HBe := Lib.hid hBe
  clear hBe
  have c0 := hx.c0
  have c1 := hx.c1
  have c2 := hx.c2
  have c3 := hx.c3
  have g0 := hx.f 0
  have g1 := hx.f 1
  have g2 := hx.f 2
  have g3 := hx.f 3
  go_upto_region 3 with fail
  obtain ⟨W0, hW0, x0, r0, b0⟩ : ∃ W0, ((W.setCell ⟨B, 0, none⟩ (.int .u64 lo)).setCell ⟨B, 1, none⟩ (.int .u64 0)).setCell ⟨B, 2, none⟩ (.int .i64 (e - 64)) = W0 ∧ NBox W0 B lo 0 (e - 64) t ∧ NBox W0 (B + 1) 0 0 0 false ∧ Below B w W0 :=
    ⟨_, rfl, hx.stored012 lo 0 (e - 64), hr.only (only_nset3 _ _ _ _ _) (by omega), hB.trans ((only_nset3 _ _ _ _ _).below (Nat.le_refl _))⟩
  rw [hW0]
  clear hW0 hx hr hB c0 c1 c2 c3 g0 g1 g2 g3
  have c0 := x0.c0
  have c1 := x0.c1
  have c2 := x0.c2
  have c3 := x0.c3
  have g0 := x0.f 0
  have g1 := x0.f 1
  have g2 := x0.f 2
  have g3 := x0.f 3
  go_wp2_with (refine (CL.out _).mono ?_; rintro e w' ⟨rfl, rfl⟩)
  go_region
  go_upto_region 7 with fail
  obtain ⟨W1, hW1, x1, r1, b1⟩ : ∃ W1, (((W0.setCell ⟨B, 0, none⟩ (.int .u64 A)).setCell ⟨B, 1, none⟩ (.int .u64 0)).setCell ⟨B, 2, none⟩ (.int .i64 (e - 64 - k))).drew = W1 ∧ NBox W1 B A 0 (e - 64 - k) t ∧ NBox W1 (B + 1) 0 0 0 false ∧ Below B w W1 :=
    ⟨_, rfl, (x0.stored012 A 0 (e - 64 - k)).drew, (r0.only (only_nset3 _ _ _ _ _) (by omega)).drew, (b0.trans ((only_nset3 _ _ _ _ _).below (Nat.le_refl _))).drew⟩
  rw [hW1]
  clear hW1 x0 r0 b0 c0 c1 c2 c3 g0 g1 g2 g3 hz hs1 hs3
  have c0 := x1.c0
  have c1 := x1.c1
  have c2 := x1.c2
  have c3 := x1.c3
  have q0 := r1.c0
  have q1 := r1.c1
  have q2 := r1.c2
  have q3 := r1.c3
  have p0 := r1.f 0
  have p1 := r1.f 1
  have p2 := r1.f 2
  have p3 := r1.f 3
  have z := r1.stored A 0 (e - 64 - k) t
  have z0 := z.c0
  have z1 := z.c1
  have z2 := z.c2
  have z3 := z.c3
  have B1 := Lib.hid (b1.trans ((only_nset4 W1 (B + 1) (.int .u64 A) (.int .u64 0) (.int .i64 (e - 64 - k)) (.bool t)).below (B := B) (by omega)))
  clear z x1 r1 b1
  go_wp2
  refine bodyPost_ret (v := .agg #[(.int .u64 A), (.int .u64 0), .int .i64 (e - 64 - k), .bool t]) (by simp [results, Tryz.results118, go_sem, z0, z1, z2, z3]) rfl ⟨rfl, ?_⟩
  show Below _ _ _
  rw [HBe.out]
  exact B1.out

/-- a number that is not zero, normalized -/
theorem fnormal_any (hi lo : Nat) (e : Int) (t : Bool) (h : hi < 18446744073709551616) (hlo : lo < 18446744073709551616) (h0 : hi * 18446744073709551616 + lo ≠ 0) (he0 : -1000000000000 ≤ e) (he1 : e ≤ 1000000000000) (w : World) :
    Calls Tryz.prog 118 #[.agg #[.int .u64 (hi : Int), .int .u64 (lo : Int), .int .i64 e, .bool t]] w fun r w' => ∃ H L k : Nat, r = .returned (.agg #[.int .u64 (H : Int), .int .u64 (L : Int), .int .i64 (e - k), .bool t]) ∧
      H * 18446744073709551616 + L = (hi * 18446744073709551616 + lo) * 2 ^ k ∧ 9223372036854775808 ≤ H ∧ H < 18446744073709551616 ∧ L < 18446744073709551616 ∧ k ≤ 127 ∧ Ext w w' := by
  by_cases hh : hi = 0
  · subst hh
    obtain ⟨l, -, l1, l2⟩ := bitLen_spec lo (by omega) (by omega)
    have hl : l < 64 := (Nat.pow_lt_pow_iff_right (show 1 < 2 by omega)).1 (Nat.lt_of_le_of_lt l1 hlo)
    obtain ⟨k, hk⟩ : ∃ k, l = 63 - k ∧ k ≤ 63 := ⟨63 - l, by omega, by omega⟩
    obtain ⟨rfl, hk⟩ := hk
    rw [show 63 - k + 1 = 64 - k by omega] at l2
    obtain ⟨-, -, -, hd⟩ := norm_words (lo := 0) (by omega) (show k ≤ 64 by omega) l2
    refine (fnormal_lo lo k e t l1 l2 hk he0 he1 w).mono fun r w' ⟨hr, hw⟩ => ⟨lo * 2 ^ k, 0, 64 + k, ?_, ?_, ?_, hd, by omega, by omega, hw⟩
    · rw [hr, show e - 64 - (k : Int) = e - ((64 + k : Nat) : Int) by push_cast; omega]
      rfl
    · rw [Nat.zero_mul, Nat.zero_add, Nat.add_zero, Nat.pow_add, Nat.mul_comm (2 ^ 64), ← Nat.mul_assoc]
    · have := Nat.mul_le_mul_right (2 ^ k) l1
      rwa [← Nat.pow_add, show 63 - k + k = 63 by omega] at this
  · obtain ⟨l, -, l1, l2⟩ := bitLen_spec hi hh (by omega)
    have hl : l < 64 := (Nat.pow_lt_pow_iff_right (show 1 < 2 by omega)).1 (Nat.lt_of_le_of_lt l1 h)
    obtain ⟨k, hk⟩ : ∃ k, l = 63 - k ∧ k ≤ 63 := ⟨63 - l, by omega, by omega⟩
    obtain ⟨rfl, hk⟩ := hk
    rw [show 63 - k + 1 = 64 - k by omega] at l2
    obtain ⟨n1, n2, n3, n4⟩ := norm_words hlo (show k ≤ 64 by omega) l2
    refine (fnormal_hi hi lo k e t l1 l2 hk hlo he0 he1 w).mono fun r w' ⟨hr, hw⟩ => ⟨_, _, k, hr, n1, ?_, n2, Nat.mod_lt _ (by omega), by omega, hw⟩
    have := Nat.mul_le_mul_right (2 ^ k) l1
    rw [← Nat.pow_add, show 63 - k + k = 63 by omega] at this
    exact Nat.le_trans this (Nat.le_add_right _ _)
end Go.Proofs.YtapcecjbmcoliaaGreatDoor
