import Derived.Test.YtapcecjbmcoliaaGreatDoorACauU8
import Derived.Shelf.Small.Bits
import Derived.Shelf.Bits.Mul64
import Derived.Shelf.Spec.BitsCarry
import Derived.Test.YtapcecjbmcoliaaGreatDoorProg
import Derived.Test.YtapcecjbmcoliaaGreatDoorACauU0
import Derived.Test.YtapcecjbmcoliaaGreatDoorACauU2
import Derived.Laws.ShiftsVar
import Derived.Laws.ShiftsVarLaws
import Derived.Laws.Bits64b
namespace Go.Proofs.YtapcecjbmcoliaaGreatDoor

theorem kept_lt {N k : Nat} (hk : Nat.log2 N + 1 ≤ 53 + k) : N / 2 ^ k < 9007199254740992 := by
  rw [Nat.div_lt_iff_lt_mul (Nat.pow_pos (by omega)), show (9007199254740992 : Nat) = 2 ^ 53 by decide, ← Nat.pow_add]
  refine Nat.lt_of_lt_of_le (Nat.lt_log2_self (n := N)) (Nat.pow_le_pow_right (by omega) hk)

theorem fla_le (neg : Bool) (N : Nat) (e : Int) (t : Bool) (mode : Int) : fla neg N e t mode ≤ 9218868437227405312 := by
  unfold fla
  split
  · split <;> omega
  · rename_i h
    have hP : fplace N e = max (e + (Nat.log2 N : Int) - 52) (-1074) := rfl
    split
    · rename_i h1
      obtain ⟨k, hk⟩ : ∃ k : Nat, (e - fplace N e).toNat = k := ⟨_, rfl⟩
      obtain ⟨p, hp⟩ : ∃ p : Nat, (fplace N e + 1074).toNat = p := ⟨_, rfl⟩
      rw [hk, hp]
      have hlt : N * 2 ^ k < 9007199254740992 := by
        rw [show (9007199254740992 : Nat) = 2 ^ 53 by decide]
        have h2 : N * 2 ^ k < 2 ^ (Nat.log2 N + 1) * 2 ^ k := Nat.mul_lt_mul_of_pos_right (Nat.lt_log2_self (n := N)) (Nat.pow_pos (by omega))
        rw [← Nat.pow_add] at h2
        exact Nat.lt_of_lt_of_le h2 (Nat.pow_le_pow_right (by omega) (by omega))
      have hp2 : p ≤ 2045 := by omega
      generalize N * 2 ^ k = x at *
      omega
    · rename_i h1
      obtain ⟨k, hk⟩ : ∃ k : Nat, (fplace N e - e).toNat = k := ⟨_, rfl⟩
      obtain ⟨p, hp⟩ : ∃ p : Nat, (fplace N e + 1074).toNat = p := ⟨_, rfl⟩
      rw [hk, hp]
      have hlt := kept_lt (N := N) (k := k) (by omega)
      have hp2 : p ≤ 2045 := by omega
      generalize N / 2 ^ k = x at *
      split <;> omega

theorem nan_mag {f : Nat} (s : Bool) (h : f ≤ 9218868437227405312) : nanB (sgz s + f) = false ∧ sgz s + f < 18446744073709551616 := by
  have h1 := sgz_le s
  have h2 : fmag (sgz s + f) = f := by unfold fmag sgz; split <;> omega
  exact ⟨decide_eq_false (by omega), by omega⟩
theorem cancel_num (mode : Int) : nanB (cancel mode) = false ∧ cancel mode < 18446744073709551616 ∧ fmag (cancel mode) = 0 := by
  unfold cancel
  split <;> decide
theorem rsum_num (S m mode : Int) : nanB (rsum S m mode) = false ∧ rsum S m mode < 18446744073709551616 := by
  unfold rsum
  split
  · exact ⟨(cancel_num mode).1, (cancel_num mode).2.1⟩
  · unfold rnd flr
    have h := fla_le (decide (S < 0)) S.natAbs m false mode
    exact nan_mag (decide (S < 0)) h
theorem fin_not {a : Nat} (h : finB a = true) : nanB a = false ∧ infB a = false := by
  have h1 : fmag a < 9218868437227405312 := of_decide_eq_true h
  exact ⟨decide_eq_false (by omega), decide_eq_false (by omega)⟩
theorem frank_zero {f : Nat} (h : fmag f = 0) : frank f = 0 := by unfold frank; rw [h]; split <;> rfl
end Go.Proofs.YtapcecjbmcoliaaGreatDoor

namespace Go.Proofs
open Go.Shelf
def Tryz.lays134_ren : Go.Shelf.Ren := ⟨fun | 129 => 104 | 134 => 117 | n => n, fun | 3 => 3 | 4 => 4 | 5 => 5 | 9 => 9 | 46 => 62 | 53 => 40 | n => n, fun | n => n⟩
theorem Tryz.lays134 : Go.Proofs.Lays.n134 Tryz.prog Tryz.lays134_ren := {
  mixed := by kernel_rfl
  f129 := Tryz.func104.trans (congrArg some (by kernel_rfl))
  f134 := Tryz.func117.trans (congrArg some (by kernel_rfl))
  t3 := Tryz.underlying3
  a3 := Tryz.isAgg3
  z3 := Tryz.sizeOf3
  v3 := Tryz.zeroValue3
  t4 := Tryz.underlying4
  a4 := Tryz.isAgg4
  z4 := Tryz.sizeOf4
  v4 := Tryz.zeroValue4
  t5 := Tryz.underlying5
  a5 := Tryz.isAgg5
  z5 := Tryz.sizeOf5
  v5 := Tryz.zeroValue5
  t9 := Tryz.underlying9
  a9 := Tryz.isAgg9
  z9 := Tryz.sizeOf9
  v9 := Tryz.zeroValue9
  t46 := Tryz.underlying62
  a46 := Tryz.isAgg62
  z46 := Tryz.sizeOf62
  v46 := Tryz.zeroValue62
  t53 := Tryz.underlying40
  a53 := Tryz.isAgg40
  z53 := Tryz.sizeOf40
  v53 := Tryz.zeroValue40 }
theorem Tryz.bits_LeadingZeros64 (x : Int) (w : World) (h0 : 0 ≤ x) (h1 : x ≤ 18446744073709551615) :
    Calls Tryz.prog 117 #[.int .u64 x] w fun e w' => e = .returned (.int .i64 (64 - (Lib.bitLen x.toNat : Int))) ∧ w' = w := Any.bits_LeadingZeros64 Tryz.lays134 x w h0 h1
def Tryz.lays264_ren : Go.Shelf.Ren := ⟨fun | 264 => 120 | n => n, fun | 46 => 62 | 53 => 40 | n => n, fun | n => n⟩
theorem Tryz.lays264 : Go.Proofs.Lays.n264 Tryz.prog Tryz.lays264_ren := {
  mixed := by kernel_rfl
  f264 := Tryz.func120.trans (congrArg some (by kernel_rfl))
  t46 := Tryz.underlying62
  a46 := Tryz.isAgg62
  z46 := Tryz.sizeOf62
  v46 := Tryz.zeroValue62
  t53 := Tryz.underlying40
  a53 := Tryz.isAgg40
  z53 := Tryz.sizeOf40
  v53 := Tryz.zeroValue40 }
theorem Tryz.bits_Mul64 (x y : Nat) (hx : x < 18446744073709551616) (hy : y < 18446744073709551616) (w : World) :
    Calls Tryz.prog 120 #[.int .u64 x, .int .u64 y] w fun e w' => e = .returned (.tuple #[.int .u64 ((x * y / 18446744073709551616 : Nat) : Int), .int .u64 ((x * y % 18446744073709551616 : Nat) : Int)]) ∧ w' = w := Any.bits_Mul64 Tryz.lays264 x y hx hy w
def Tryz.lays7_25_ren : Go.Shelf.Ren := ⟨fun | 25 => 130 | n => n, fun | 22 => 40 | n => n, fun | n => n⟩
theorem Tryz.lays7_25 : Go.Proofs.Lays7.n25 Tryz.prog Tryz.lays7_25_ren := {
  mixed := by kernel_rfl
  f25 := Tryz.func130.trans (congrArg some (by kernel_rfl))
  t22 := Tryz.underlying40
  a22 := Tryz.isAgg40
  z22 := Tryz.sizeOf40
  v22 := Tryz.zeroValue40
  i22 := by kernel_rfl }
def Tryz.lays7_26_ren : Go.Shelf.Ren := ⟨fun | 26 => 131 | n => n, fun | 22 => 40 | n => n, fun | n => n⟩
theorem Tryz.lays7_26 : Go.Proofs.Lays7.n26 Tryz.prog Tryz.lays7_26_ren := {
  mixed := by kernel_rfl
  f26 := Tryz.func131.trans (congrArg some (by kernel_rfl))
  t22 := Tryz.underlying40
  a22 := Tryz.isAgg40
  z22 := Tryz.sizeOf40
  v22 := Tryz.zeroValue40
  i22 := by kernel_rfl }
theorem Tryz.bits_Add64 (x y c : Nat) (hc : c ≤ 1) (w : World) :
    (callFunc 130 #[.int .u64 x, .int .u64 y, .int .u64 c]).run Tryz.prog w =
      .ok (.value (.tuple #[.int .u64 (((x + y + c) % 18446744073709551616 : Nat) : Int), .int .u64 (((x + y + c) / 18446744073709551616 : Nat) : Int)])) w := Any7.bits_Add64 Tryz.lays7_25 x y c hc w
theorem Tryz.bits_Sub64 (x y b : Nat) (hb : b ≤ 1) (w : World) :
    (callFunc 131 #[.int .u64 x, .int .u64 y, .int .u64 b]).run Tryz.prog w =
      .ok (.value (.tuple #[.int .u64 (((x + 18446744073709551616 - y - b) % 18446744073709551616 : Nat) : Int), .int .u64 ((if x < y + b then 1 else 0 : Nat) : Int)])) w := Any7.bits_Sub64 Tryz.lays7_26 x y b hb w
end Go.Proofs

namespace Go.Proofs.YtapcecjbmcoliaaGreatDoor

theorem lt_or_ge_int (a b : Int) : a < b ∨ b ≤ a := by omega

/-- the dividend u and the divisor v by their leading limbs: B is the weight of what is below -/
structure Lead (u v top w2 f s B : Int) : Prop where
  bpos : 0 < B
  u0 : (top * 4294967296 + w2) * B ≤ u
  u1 : u < (top * 4294967296 + w2 + 1) * B
  v0 : (f * 4294967296 + s) * B ≤ v
  v1 : v < (f * 4294967296 + s + 1) * B
  t0 : 0 ≤ top
  w0 : 0 ≤ w2
  w1 : w2 < 4294967296
  s0 : 0 ≤ s
  s1 : s < 4294967296
  f0 : 2147483648 ≤ f
  f1 : f < 4294967296
  uv : u < v * 4294967296

/-- q is not too small, and r is what it leaves of the first limbs -/
structure Est (u v top f q r : Int) : Prop where
  qr : q * f + r = top
  r0 : 0 ≤ r
  q0 : 0 ≤ q
  ge : u / v ≤ q

theorem Lead.vpos {u v top w2 f s B : Int} (h : Lead u v top w2 f s B) : 0 < v := by
  have h1 : 0 < (f * 4294967296 + s) * B := Int.mul_pos (by have := h.f0; have := h.s0; omega) h.bpos
  have := h.v0
  omega

theorem Lead.unonneg {u v top w2 f s B : Int} (h : Lead u v top w2 f s B) : 0 ≤ u := by
  have h1 : 0 ≤ (top * 4294967296 + w2) * B := Int.mul_nonneg (by have := h.t0; have := h.w0; omega) (Int.le_of_lt h.bpos)
  have := h.u0
  omega

theorem Lead.qlt {u v top w2 f s B : Int} (h : Lead u v top w2 f s B) : u / v < 4294967296 :=
  Int.ediv_lt_of_lt_mul h.vpos (by rw [Int.mul_comm]; exact h.uv)

theorem Lead.start {u v top w2 f s B : Int} (h : Lead u v top w2 f s B) : Est u v top f (top / f) (top % f) := by
  have hf : 0 < f := by have := h.f0; omega
  refine ⟨by rw [Int.mul_comm]; exact Int.mul_ediv_add_emod top f, Int.emod_nonneg _ (by omega), Int.ediv_nonneg h.t0 (by omega), ?_⟩
  rw [Int.le_ediv_iff_mul_le hf]
  have hQ : u / v * v ≤ u := Int.ediv_mul_le u (by have := h.vpos; omega)
  have hQ0 : 0 ≤ u / v := Int.ediv_nonneg h.unonneg (Int.le_of_lt h.vpos)
  generalize u / v = Q at *
  rcases lt_or_ge_int top (Q * f) with hlt | hle
  · exfalso
    -- Q v ≥ Q f R B ≥ (top + 1) R B > u
    have a1 : (top + 1) * (4294967296 * B) ≤ Q * f * (4294967296 * B) := Int.mul_le_mul_of_nonneg_right (by omega) (by have := h.bpos; omega)
    have a2 : Q * ((f * 4294967296 + s) * B) ≤ Q * v := Int.mul_le_mul_of_nonneg_left h.v0 hQ0
    have a3 : Q * ((f * 4294967296 + s) * B) = Q * f * (4294967296 * B) + Q * (s * B) := by
      rw [Int.add_mul, Int.mul_add, Int.mul_assoc f, ← Int.mul_assoc Q f]
    have a4 : 0 ≤ Q * (s * B) := Int.mul_nonneg hQ0 (Int.mul_nonneg h.s0 (Int.le_of_lt h.bpos))
    have a5 : (top * 4294967296 + w2 + 1) * B ≤ (top + 1) * (4294967296 * B) := by
      rw [← Int.mul_assoc]
      exact Int.mul_le_mul_of_nonneg_right (by have := h.w1; omega) (Int.le_of_lt h.bpos)
    have := h.u1
    omega
  · exact hle

theorem Lead.lower {u v top w2 f s B q r : Int} (h : Lead u v top w2 f s B) (e : Est u v top f q r) (hc : 4294967295 < q ∨ r * 4294967296 + w2 < q * s) : u / v ≤ q - 1 := by
  rcases hc with hc | hc
  · have := h.qlt; omega
  · have hge := e.ge
    have hQ : u / v * v ≤ u := Int.ediv_mul_le u (by have := h.vpos; omega)
    rcases lt_or_ge_int (u / v) q with h1 | h1
    · omega
    · exfalso
      have hq : u / v = q := by omega
      rw [hq] at hQ
      have a2 : q * ((f * 4294967296 + s) * B) ≤ q * v := Int.mul_le_mul_of_nonneg_left h.v0 e.q0
      have a3 : q * ((f * 4294967296 + s) * B) = (q * f * 4294967296 + q * s) * B := by
        rw [← Int.mul_assoc, Int.mul_add, ← Int.mul_assoc q f]
      have a4 : (top * 4294967296 + w2 + 1) * B ≤ (q * f * 4294967296 + q * s) * B := by
        refine Int.mul_le_mul_of_nonneg_right ?_ (Int.le_of_lt h.bpos)
        have := e.qr
        omega
      have := h.u1
      omega

theorem Lead.step {u v top w2 f s B q r : Int} (h : Lead u v top w2 f s B) (e : Est u v top f q r) (hc : 4294967295 < q ∨ r * 4294967296 + w2 < q * s) : Est u v top f (q - 1) (r + f) := by
  have h1 := h.lower e hc
  have hQ0 : 0 ≤ u / v := Int.ediv_nonneg h.unonneg (Int.le_of_lt h.vpos)
  refine ⟨?_, by have := e.r0; have := h.f0; omega, by omega, h1⟩
  have := e.qr
  rw [Int.sub_mul]
  omega

theorem Lead.out {u v top w2 f s B q r : Int} (h : Lead u v top w2 f s B) (e : Est u v top f q r) (hc : 4294967295 < r ∨ (q ≤ 4294967295 ∧ q * s ≤ r * 4294967296 + w2)) : q ≤ 4294967295 ∧ q ≤ u / v + 1 := by
  have hv := h.vpos
  -- the first limbs of u are less than those of v, times the base
  have htop : top ≤ f * 4294967296 + 4294967295 := by
    rcases lt_or_ge_int (f * 4294967296 + 4294967295) top with h1 | h1
    · exfalso
      have a1 : (f * 4294967296 + s + 1) * B * 4294967296 ≤ (top * 4294967296 + w2) * B := by
        rw [Int.mul_assoc, Int.mul_comm B, ← Int.mul_assoc]
        exact Int.mul_le_mul_of_nonneg_right (by have := h.s1; have := h.w0; omega) (Int.le_of_lt h.bpos)
      have a2 : v * 4294967296 ≤ (f * 4294967296 + s + 1) * B * 4294967296 := Int.mul_le_mul_of_nonneg_right (Int.le_of_lt h.v1) (by omega)
      have := h.u0
      have := h.uv
      omega
    · exact h1
  have hqr := e.qr
  have hr0 := e.r0
  have hq0 := e.q0
  have hf0 := h.f0
  have hs0 := h.s0
  have hs1 := h.s1
  have hw0 := h.w0
  have hq : q ≤ 4294967295 := by
    rcases hc with hc | hc
    · rcases lt_or_ge_int 4294967295 q with h1 | h1
      · exfalso
        have := Int.mul_le_mul_of_nonneg_right (show 4294967296 ≤ q by omega) (show 0 ≤ f by omega)
        omega
      · exact h1
    · exact hc.1
  refine ⟨hq, ?_⟩
  -- (q - 1) v ≤ u
  suffices hs : (q - 1) * v ≤ u by
    have := (Int.le_ediv_iff_mul_le hv).2 hs
    omega
  rcases lt_or_ge_int q 1 with h1 | h1
  · have : (q - 1) * v ≤ 0 := by
      have := Int.mul_le_mul_of_nonneg_right (show q - 1 ≤ 0 by omega) (Int.le_of_lt hv)
      omega
    have := h.unonneg
    omega
  · have hB := h.bpos
    rcases hc with hc | ⟨_, hc⟩
    · have b1 : (q - 1) * v ≤ (q - 1) * ((f * 4294967296 + s + 1) * B) := Int.mul_le_mul_of_nonneg_left (Int.le_of_lt h.v1) (by omega)
      have b2 : (q - 1) * ((f * 4294967296 + s + 1) * B) = ((q - 1) * (f * 4294967296 + s + 1)) * B := by rw [Int.mul_assoc]
      have b3 : (q - 1) * (f * 4294967296 + s + 1) ≤ top * 4294967296 + w2 := by
        have c1 : (q - 1) * (f * 4294967296 + s + 1) = q * f * 4294967296 - f * 4294967296 + (q - 1) * (s + 1) := by
          rw [Int.add_assoc, Int.mul_add, ← Int.mul_assoc, Int.sub_mul, Int.one_mul, Int.sub_mul]
        have c2 : (q - 1) * (s + 1) ≤ 4294967294 * (s + 1) := Int.mul_le_mul_of_nonneg_right (by omega) (by omega)
        omega
      have b4 := Int.mul_le_mul_of_nonneg_right b3 (Int.le_of_lt hB)
      have := h.u0
      omega
    · have b1 : q * v ≤ q * ((f * 4294967296 + s + 1) * B) := Int.mul_le_mul_of_nonneg_left (Int.le_of_lt h.v1) (by omega)
      have b2 : q * ((f * 4294967296 + s + 1) * B) = (q * f * 4294967296 + q * s) * B + q * B := by
        rw [← Int.mul_assoc, Int.mul_add, Int.mul_add, Int.mul_one, ← Int.mul_assoc q f, Int.add_mul (_ + _) q B]
      have b3 : (q * f * 4294967296 + q * s) * B ≤ (top * 4294967296 + w2) * B := by
        refine Int.mul_le_mul_of_nonneg_right ?_ (Int.le_of_lt hB)
        omega
      have b4 : q * B ≤ (f * 4294967296 + s) * B := Int.mul_le_mul_of_nonneg_right (by omega) (Int.le_of_lt hB)
      have := h.u0
      have := h.v0
      have e1 : (q - 1) * v = q * v - v := by rw [Int.sub_mul, Int.one_mul]
      omega

end Go.Proofs.YtapcecjbmcoliaaGreatDoor

namespace Go.Proofs.YtapcecjbmcoliaaGreatDoor
open Go.RowKit

theorem bits_or_u32_nat (a b : Nat) (ha : a < 4294967296) (hb : b < 4294967296) : bits BinOp.or IntKind.u32 (a : Int) (b : Int) = ((a ||| b : Nat) : Int) := by
  have hx : a ||| b < 2 ^ 32 := Nat.or_lt_two_pow (by omega) (by omega)
  have h1 : (BitVec.ofInt 32 (a : Int)).toNat = a := by
    rw [BitVec.ofInt_natCast, BitVec.toNat_ofNat]; exact Nat.mod_eq_of_lt (by omega)
  have h2 : (BitVec.ofInt 32 (b : Int)).toNat = b := by
    rw [BitVec.ofInt_natCast, BitVec.toNat_ofNat]; exact Nat.mod_eq_of_lt (by omega)
  show IntKind.u32.wrap ((BitVec.ofInt 32 (a : Int) ||| BitVec.ofInt 32 (b : Int)).toNat : Int) = _
  rw [BitVec.toNat_or, h1, h2]
  simp only [IntKind.wrap, IntKind.bits, IntKind.signed, Bool.false_and, Bool.false_eq_true, if_false]
  omega

theorem or_low {z q : Int} {k : Nat} (hk : k < 32) (z0 : 0 ≤ z) (z1 : z < 2 ^ k) (q0 : 0 ≤ q) (q1 : q * 2 ^ k < 4294967296) : bits BinOp.or IntKind.u32 z (q * 2 ^ k) = z + q * 2 ^ k := by
  obtain ⟨a, rfl⟩ := Int.eq_ofNat_of_zero_le z0
  obtain ⟨b, rfl⟩ := Int.eq_ofNat_of_zero_le q0
  have h1 : a < 2 ^ k := by
    have : ((a : Nat) : Int) < ((2 ^ k : Nat) : Int) := by rw [Int.natCast_pow]; exact z1
    exact Int.ofNat_lt.1 this
  have h2 : b * 2 ^ k < 4294967296 := by
    have : ((b * 2 ^ k : Nat) : Int) < ((4294967296 : Nat) : Int) := by rw [Int.natCast_mul, Int.natCast_pow]; exact q1
    exact Int.ofNat_lt.1 this
  have h3 : 2 ^ k < 2 ^ 32 := Nat.pow_lt_pow_right (by omega) hk
  have e := bits_or_u32_nat a (b * 2 ^ k) (by omega) h2
  have e2 : a ||| b * 2 ^ k = a + b * 2 ^ k := by
    have := Nat.two_pow_add_eq_or_of_lt h1 b
    rw [Nat.or_comm, Nat.mul_comm b, ← this]; omega
  rw [e2, Int.natCast_add, Int.natCast_mul, Int.natCast_pow] at e
  exact e

/-- one limb shifted: what stays, and what goes over -/
theorem limb_shift {y z : Int} {k : Nat} (hk : k < 32) (y0 : 0 ≤ y) (y1 : y < 4294967296) (z0 : 0 ≤ z) (z1 : z < 2 ^ k) :
    0 ≤ bits BinOp.or IntKind.u32 z (IntKind.u64.wrap (y * 2 ^ k) % 4294967296) ∧ bits BinOp.or IntKind.u32 z (IntKind.u64.wrap (y * 2 ^ k) % 4294967296) < 4294967296 ∧
    0 ≤ IntKind.u64.wrap (y * 2 ^ k) / 4294967296 % 4294967296 ∧ IntKind.u64.wrap (y * 2 ^ k) / 4294967296 % 4294967296 < 2 ^ k ∧ IntKind.u64.wrap (y * 2 ^ k) / 4294967296 % 4294967296 < 4294967296 ∧
    bits BinOp.or IntKind.u32 z (IntKind.u64.wrap (y * 2 ^ k) % 4294967296) + 4294967296 * (IntKind.u64.wrap (y * 2 ^ k) / 4294967296 % 4294967296) = z + y * 2 ^ k := by
  have hp : (0 : Int) < 2 ^ k := by exact Int.pow_pos (by omega)
  have hp2 : (2 : Int) ^ k * 2 ^ (32 - k) = 4294967296 := by rw [← Int.pow_add, show k + (32 - k) = 32 by omega]; rfl
  have hpr : (0 : Int) < 2 ^ (32 - k) := Int.pow_pos (by omega)
  have hw0 : 0 ≤ y * 2 ^ k := Int.mul_nonneg y0 (by omega)
  have hw1 : y * 2 ^ k < 4294967296 * 2 ^ k := Int.mul_lt_mul_of_pos_right y1 hp
  have hp32 : (2 : Int) ^ k ≤ 4294967296 := by
    rw [← hp2]
    have := Int.mul_le_mul_of_nonneg_left (show (1 : Int) ≤ 2 ^ (32 - k) by omega) (Int.le_of_lt hp)
    rwa [Int.mul_one] at this
  have hwr : IntKind.u64.wrap (y * 2 ^ k) = y * 2 ^ k := by
    rw [IntKind.wrap_u64]; exact Int.emod_eq_of_lt hw0 (by omega)
  rw [hwr]
  have hc1 : y * 2 ^ k / 4294967296 < 2 ^ k := Int.ediv_lt_of_lt_mul (by omega) (by rw [Int.mul_comm (2 ^ k) 4294967296]; exact hw1)
  have hc0 : 0 ≤ y * 2 ^ k / 4294967296 := Int.ediv_nonneg hw0 (by omega)
  have hcm : y * 2 ^ k / 4294967296 % 4294967296 = y * 2 ^ k / 4294967296 := Int.emod_eq_of_lt hc0 (by omega)
  rw [hcm]
  -- the low part is a multiple of 2^k
  have hq : y * 2 ^ k % 4294967296 = (y % 2 ^ (32 - k)) * 2 ^ k := by
    rw [← hp2, Int.mul_comm y, Int.mul_emod_mul_of_pos _ _ hp, Int.mul_comm]
  have hl1 : y * 2 ^ k % 4294967296 < 4294967296 := Int.emod_lt_of_pos _ (by omega)
  have hor := or_low (q := y % 2 ^ (32 - k)) hk z0 z1 (Int.emod_nonneg _ (by omega)) (by rw [← hq]; exact hl1)
  rw [hq, hor, ← hq]
  have hl0 : 0 ≤ y * 2 ^ k % 4294967296 := Int.emod_nonneg _ (by omega)
  -- z + low < R : both are below, and low ≤ R - 2^k
  have hle : y * 2 ^ k % 4294967296 + 2 ^ k ≤ 4294967296 := by
    rw [hq]
    have h1 : y % 2 ^ (32 - k) + 1 ≤ 2 ^ (32 - k) := Int.emod_lt_of_pos _ hpr
    have h2 := Int.mul_le_mul_of_nonneg_right h1 (Int.le_of_lt hp)
    rw [Int.add_mul, Int.one_mul, Int.mul_comm (2 ^ (32 - k)) (2 ^ k), hp2] at h2
    exact h2
  refine ⟨by omega, by omega, hc0, hc1, by omega, by omega⟩

/-- j limbs are shifted -/
def Up (zs Lj : List Int) (n s k j : Nat) : Prop :=
  Lj.length = s + n + 1 ∧ Wf Lj ∧ num Lj = num (zs.take j) * 4294967296 ^ s * 2 ^ k ∧ Lj.getD (s + j) 0 < 2 ^ k ∧ ∀ i, s + j < i → Lj.getD i 0 = 0

theorem getD_rep (n i : Nat) : (List.replicate n (0 : Int)).getD i 0 = 0 := by
  by_cases h : i < n <;> simp [List.getD, h]

theorem Up.start (zs : List Int) (n s k : Nat) : Up zs (List.replicate (s + n + 1) 0) n s k 0 :=
  ⟨by simp, Wf.replicate _, by simp [num_replicate, num], by rw [getD_rep]; exact Int.pow_pos (by omega), fun i _ => getD_rep _ i⟩

theorem Up.step {zs Lj : List Int} {n s k j : Nat} (h : Up zs Lj n s k j) (hj : j < n) (hz : zs.length = n) (a c : Int) (a0 : 0 ≤ a) (a1 : a < 4294967296) (c0 : 0 ≤ c) (c1 : c < 2 ^ k) (c2 : c < 4294967296)
    (he : a + 4294967296 * c = Lj.getD (s + j) 0 + zs.getD j 0 * 2 ^ k) : Up zs ((Lj.set (s + j) a).set (s + j + 1) c) n s k (j + 1) := by
  obtain ⟨h1, h2, h3, h4, h5⟩ := h
  refine ⟨by simp [h1], (h2.set _ ⟨a0, a1⟩).set _ ⟨c0, c2⟩, ?_, ?_, ?_⟩
  · rw [num_set _ _ _ (by simp; omega), num_set _ _ _ (by omega), h3, getD_set _ _ _ _ (by omega), if_neg (by omega), h5 (s + j + 1) (by omega), num_take_succ zs j (by omega)]
    have e1 : (4294967296 : Int) ^ (s + j + 1) * (c - 0) = 4294967296 ^ (s + j) * (4294967296 * c) := by
      rw [Int.pow_succ, Int.sub_zero, Int.mul_assoc]
    have e2 : (4294967296 : Int) ^ (s + j) * (a - Lj.getD (s + j) 0) + 4294967296 ^ (s + j) * (4294967296 * c) = 4294967296 ^ (s + j) * (zs.getD j 0 * 2 ^ k) := by
      rw [← Int.mul_add]
      congr 1
      omega
    have e3 : (4294967296 : Int) ^ (s + j) * (zs.getD j 0 * 2 ^ k) = 4294967296 ^ j * zs.getD j 0 * 4294967296 ^ s * 2 ^ k := by
      rw [Int.pow_add]
      simp only [Int.mul_assoc, Int.mul_comm, Int.mul_left_comm]
    rw [e1, Int.add_assoc, e2, e3, Int.add_mul, Int.add_mul]
  · rw [show s + (j + 1) = s + j + 1 by omega, getD_set _ _ _ _ (by simp; omega), if_pos rfl]
    exact c1
  · intro i hi
    rw [getD_set _ _ _ _ (by simp; omega), if_neg (by omega), getD_set _ _ _ _ (by omega), if_neg (by omega)]
    exact h5 i (by omega)

set_option maxRecDepth 100000 in
set_option maxHeartbeats 1000000 in
theorem shiftUp_raw (zs : List Int) (s k : Nat) (ao : Option Addr) (n ca : Nat) (w : World) (ha : Sl w ao n ca zs) (hk : k < 32) (hn : n ≤ 1000000000) (hs : s ≤ 1000000000) :
    Calls Tryz.prog 74 #[.slice ao n ca, .int .i64 ((s * 32 + k : Nat) : Int)] w fun e w' => ∃ ao' l cap, e = .returned (.slice ao' l cap) ∧ Sl w' ao' l cap (limbs (num zs * 4294967296 ^ s * 2 ^ k).toNat) ∧ Below w.heap.size w w' := by
  have hd : ((s * 32 + k : Nat) : Int) / 32 = (s : Int) := by omega
  have hr : ((s * 32 + k : Nat) : Int) % 32 = (k : Int) := by omega
  obtain ⟨x, hx⟩ : ∃ x : Int, ((s * 32 + k : Nat) : Int) = x := ⟨_, rfl⟩
  rw [hx] at hd hr ⊢
  have hx0 : 0 ≤ x := by omega
  have hx1 : x ≤ 100000000000 := by omega
  have HX := Lib.hid hx; clear hx
  go_enter Tryz.func74, Tryz.ntmps74
  go_wp2_with (refine wpList_make_u32 _ rfl _ _ rfl _ (s + n + 1) rfl rfl (by omega) (by omega) ?_)
  intro w1 hb1 hw1
  have hsa := ha.cells.stay_below hw1 (Nat.le_refl _)
  generalize hg : w.heap.size = g at *
  have HG := Lib.hid hg; clear hg
  have hal := ha.len
  have HAL := Lib.hid hal; clear hal
  have hwz := ha.wf
  go_wp2
  go_loopw [8, 9, 10, 23] (fun _ _ _ i wr => ∃ (j : Nat) (Lj : List Int), j ≤ n ∧ i = .int .i64 j ∧ Up zs Lj n s k j ∧ Blk wr g Lj ∧ Only g w1 wr)
    (fun _ _ _ i _ => n - (intOf i).toNat)
  case atStart => exact ⟨0, _, Nat.zero_le _, rfl, Up.start zs n s k, hb1, Only.refl g w1⟩
  case round =>
    obtain ⟨j, Lj, hj, rfl, hU, hbk, ho⟩ := hrel
    have hl := hU.1
    have HU := Lib.hid hU; clear hU
    by_cases hlt : j < n
    · obtain ⟨bb, ob, rfl, hcb⟩ := hsa _ ho (by rw [HAL.out]; omega)
      have c1 := hcb j (by rw [HAL.out]; omega)
      clear hcb
      have hyr := hwz.getD j
      obtain ⟨y, hy⟩ : ∃ y, zs.getD j 0 = y := ⟨_, rfl⟩
      rw [hy] at c1 hyr
      have HY := Lib.hid hy; clear hy
      obtain ⟨y0, y1⟩ := hyr
      have c2 := hbk.cell (s + j) (by omega)
      have c3 := hbk.frozen (s + j)
      have c4 := hbk.cell (s + j + 1) (by omega)
      have c5 := hbk.frozen (s + j + 1)
      obtain ⟨z, hz⟩ : ∃ z, Lj.getD (s + j) 0 = z := ⟨_, rfl⟩
      obtain ⟨z', hz'⟩ : ∃ z, Lj.getD (s + j + 1) 0 = z := ⟨_, rfl⟩
      rw [hz] at c2
      rw [hz'] at c4
      have HZ := Lib.hid hz; clear hz
      have HZ' := Lib.hid hz'; clear hz'
      have HL := Lib.hid hl; clear hl
      go_wp2
      go_roundw
      case rel =>
        have z0 := (HU.out.2.1.getD (s + j)).1
        have z1 := HU.out.2.2.2.1
        rw [HZ.out] at z0 z1
        obtain ⟨q0, q1, q2, q3, q4, q5⟩ := limb_shift hk y0 y1 z0 z1
        have st := HU.out.step (by omega) HAL.out _ _ q0 q1 q2 q3 q4 (by rw [HZ.out, HY.out]; exact q5)
        exact ⟨j + 1, _, by omega, by go_num, st, (hbk.set _ _).set _ _, (ho.setCell _ _).setCell _ _⟩
      case measure => simp [intOf] <;> omega
    · obtain rfl : j = n := by omega
      have HL := Lib.hid hl; clear hl
      go_wp2_with fail
      refine (trim_sl _ _ _ Lj wr (hbk.sl HU.out.2.1 HL.out (by omega) (Nat.le_refl _))).mono ?_
      rintro e w4 ⟨i, rfl, hs4, rfl⟩
      go_wp2
      go_ret
      refine ⟨_, i, _, rfl, ?_, by rw [HG.out]; exact hw1.trans (ho.below (Nat.le_refl _))⟩
      rw [HU.out.2.2.1, List.take_of_length_le (by rw [HAL.out]; exact Nat.le_refl _)] at hs4
      exact hs4
end Go.Proofs.YtapcecjbmcoliaaGreatDoor
