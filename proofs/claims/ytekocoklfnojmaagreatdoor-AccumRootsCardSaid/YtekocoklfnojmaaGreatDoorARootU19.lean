import Derived.Test.YtekocoklfnojmaaGreatDoorARootU18
import Derived.Test.YtekocoklfnojmaaGreatDoorARootU8
import Derived.Deep.CutRange
import Derived.Deep.CutBlock
namespace Go.Proofs.YtekocoklfnojmaaGreatDoor
open Go.RowKit

def faddF (a b : Nat) (mode : Int) : Nat := fmaF a 4607182418800017408 b mode
set_option maxRecDepth 100000 in
theorem fadd_any (a b : Nat) (mode : Int) (ha : a < 18446744073709551616) (hb : b < 18446744073709551616) (w : World) :
    Calls Tryz.prog 69 #[.int .u64 (a : Int), .int .u64 (b : Int), .int .i64 mode] w fun r w' => r = .returned (.int .u64 ((faddF a b mode : Nat) : Int)) ∧ Ext w w' := by
  unfold faddF
  have C := ffma_any a 4607182418800017408 b mode ha (by omega) hb
  generalize fmaF a 4607182418800017408 b mode = R at *
  rw [show ((4607182418800017408 : Nat) : Int) = 4607182418800017408 from rfl] at C
  have C := Lib.hid C
  go_enter Tryz.func69, Tryz.ntmps69
  go_wp2_with fail
  refine (C.out _).mono ?_
  rintro r w1 ⟨rfl, hE⟩
  go_wp2
  go_ret
  exact ⟨rfl, hE⟩

end Go.Proofs.YtekocoklfnojmaaGreatDoor

namespace Go.Proofs.YtekocoklfnojmaaGreatDoor

theorem fz_one : fz 4607182418800017408 = 2 ^ low74 := by decide +kernel

theorem one_facts : nanB 4607182418800017408 = false ∧ infB 4607182418800017408 = false ∧ zeroB 4607182418800017408 = false ∧ fneg 4607182418800017408 = false := by decide +kernel

end Go.Proofs.YtekocoklfnojmaaGreatDoor

namespace Go.Proofs.YtekocoklfnojmaaGreatDoor

theorem zero_not {a : Nat} (hz : zeroB a = true) : nanB a = false ∧ infB a = false ∧ fmag a = 0 ∧ fz a = 0 := by
  have hm : fmag a = 0 := of_decide_eq_true hz
  exact ⟨decide_eq_false (by omega), decide_eq_false (by omega), hm, (fz_zero a).2 hm⟩
theorem inf_not {a : Nat} (hi : infB a = true) : nanB a = false ∧ zeroB a = false := by
  have hm : fmag a = 9218868437227405312 := of_decide_eq_true hi
  exact ⟨decide_eq_false (by omega), decide_eq_false (by omega)⟩
theorem xor_false (b : Bool) : (b != false) = b := by cases b <;> rfl

/-- a sum, written out -/
theorem add_form (a b : Nat) (mode : Int) : fmaF a 4607182418800017408 b mode =
    if nanB a || nanB b then 9221120237041090560
    else if infB a && infB b && decide (b ≠ 9218868437227405312 + sgz (fneg a)) then 9221120237041090560
    else if infB a then 9218868437227405312 + sgz (fneg a)
    else if zeroB a && zeroB b && decide (b ≠ sgz (fneg a)) then cancel mode
    else if infB b || zeroB a then b
    else rsum (sgi (fneg a) (fz a * 2 ^ low74) + sgi (fneg b) (fz b * 2 ^ low74)) (-2148) mode := by
  obtain ⟨o1, o2, o3, o4⟩ := one_facts
  unfold fmaF
  rw [o1, o2, o3, o4, xor_false, fz_one]
  simp only [Bool.or_false]
  by_cases h : infB a = true
  · obtain ⟨h1, h2⟩ := inf_not h
    rw [h, h1, h2]
    simp
  · rw [Bool.not_eq_true] at h
    rw [h]
    simp

end Go.Proofs.YtekocoklfnojmaaGreatDoor

namespace Go.Proofs.YtekocoklfnojmaaGreatDoor

/-- is the guess too great? -/
theorem dig_test (u a b d q : Int) : (4294967296 * (u - q * a) + d < q * b) ↔ (u * 4294967296 + d < q * (a * 4294967296 + b)) := by
  have e : q * (a * 4294967296 + b) = (q * a) * 4294967296 + q * b := by rw [Int.mul_add, ← Int.mul_assoc]
  rw [e]
  omega

structure Dig (u a b d : Int) : Prop where
  a0 : 2147483648 ≤ a
  a1 : a < 4294967296
  b0 : 0 ≤ b
  b1 : b < 4294967296
  u0 : 0 ≤ u
  u1 : u < a * 4294967296 + b
  d0 : 0 ≤ d
  d1 : d < 4294967296

/-- the digit -/
def digQ (u a b d : Int) : Int := (u * 4294967296 + d) / (a * 4294967296 + b)
/-- what is left -/
def digR (u a b d : Int) : Int := (u * 4294967296 + d) % (a * 4294967296 + b)

section
variable {u a b d : Int}
theorem Dig.pos (h : Dig u a b d) : 0 < a * 4294967296 + b := by have := h.a0; have := h.b0; omega
theorem Dig.q0 (h : Dig u a b d) : 0 ≤ digQ u a b d := by
  have := h.u0; have := h.d0
  exact Int.ediv_nonneg (by omega) (Int.le_of_lt h.pos)
theorem Dig.q1 (h : Dig u a b d) : digQ u a b d < 4294967296 := by
  have h1 := h.u1; have h2 := h.d1
  refine (Int.ediv_lt_iff_lt_mul h.pos).2 ?_
  omega
theorem Dig.test (h : Dig u a b d) (q r : Int) (hr : r = u - q * a) : (4294967296 * r + d < q * b) ↔ digQ u a b d < q := by
  rw [hr, dig_test, digQ, Int.ediv_lt_iff_lt_mul h.pos]
theorem Dig.start (h : Dig u a b d) : digQ u a b d ≤ u / a ∧ u / a ≤ 4294967297 ∧ 0 ≤ u / a ∧ u - u / a * a = u % a ∧ 0 ≤ u % a ∧ u % a < a := by
  have a0 := h.a0; have a1 := h.a1; have b0 := h.b0; have b1 := h.b1; have u0 := h.u0; have u1 := h.u1; have d0 := h.d0; have d1 := h.d1
  have e := Int.mul_ediv_add_emod u a
  have r0 := Int.emod_nonneg u (show a ≠ 0 by omega)
  have r1 := Int.emod_lt_of_pos u (show 0 < a by omega)
  have q0 : 0 ≤ u / a := Int.ediv_nonneg u0 (by omega)
  refine ⟨?_, ?_, q0, by rw [Int.mul_comm]; omega, r0, r1⟩
  · have h1 : digQ u a b d < u / a + 1 := by
      refine (Int.ediv_lt_iff_lt_mul h.pos).2 ?_
      have e2 : (u / a + 1) * (a * 4294967296 + b) = (a * (u / a) + a) * 4294967296 + (u / a + 1) * b := by
        rw [Int.mul_add, ← Int.mul_assoc, Int.add_mul (u / a) 1 a, Int.one_mul, Int.mul_comm (u / a) a]
      have e3 : 0 ≤ (u / a + 1) * b := Int.mul_nonneg (by omega) b0
      rw [e2]
      omega
    omega
  · have h1 : u / a < 4294967298 := by
      refine (Int.ediv_lt_iff_lt_mul (by omega)).2 ?_
      omega
    omega
theorem Dig.stop (h : Dig u a b d) (q r : Int) (hr : r = u - q * a) (hq : q ≤ 4294967296) (hge : 4294967296 ≤ r) : ¬ digQ u a b d < q := by
  rw [← h.test q r hr]
  have b0 := h.b0; have b1 := h.b1; have d0 := h.d0
  have h1 : q * b ≤ 4294967296 * b := Int.mul_le_mul_of_nonneg_right hq b0
  omega
/-- the guess less one -/
theorem dig_next {q r : Int} (hr : r = u - q * a) : r + a = u - (q - 1) * a := by
  rw [Int.sub_mul, Int.one_mul]; omega
theorem Dig.prod (h : Dig u a b d) {q : Int} (q0 : 0 ≤ q) (q1 : q < 4294967296) : 0 ≤ q * b ∧ q * b < 18446744073709551616 := by
  have b0 := h.b0; have b1 := h.b1
  have h1 : q * b ≤ 4294967295 * b := Int.mul_le_mul_of_nonneg_right (by omega) b0
  exact ⟨Int.mul_nonneg q0 b0, by omega⟩
/-- what the words give for the rest -/
theorem Dig.rest (h : Dig u a b d) (D : Int) (hD : D = a * 4294967296 + b) : IntKind.u64.wrap (IntKind.u64.wrap (IntKind.u64.wrap (u * 4294967296) + d) - IntKind.u64.wrap (digQ u a b d * D)) = digR u a b d ∧ 0 ≤ digR u a b d ∧ digR u a b d < D := by
  have e := Int.mul_ediv_add_emod (u * 4294967296 + d) D
  have r0 := Int.emod_nonneg (u * 4294967296 + d) (show D ≠ 0 by have := h.pos; omega)
  have r1 := Int.emod_lt_of_pos (u * 4294967296 + d) (show 0 < D by have := h.pos; omega)
  have a1 := h.a1; have b1 := h.b1
  unfold digQ digR
  rw [← hD]
  refine ⟨?_, r0, r1⟩
  rw [Int.mul_comm (_ / _) D]
  generalize D * ((u * 4294967296 + d) / D) = p at *
  generalize (u * 4294967296 + d) % D = r at *
  simp only [IntKind.wrap_u64]
  omega
end

/-- two digits -/
theorem dig_two {T S y D u d1 d0 Q1 R1 Q0 R0 : Int} (hS : 0 < S) (hy : 0 < y) (hD : D = y * S) (hT : T * S = (u * 4294967296 + d1) * 4294967296 + d0)
    (hQ1 : Q1 = (u * 4294967296 + d1) / D) (hR1 : R1 = (u * 4294967296 + d1) % D) (hQ0 : Q0 = (R1 * 4294967296 + d0) / D) (hR0 : R0 = (R1 * 4294967296 + d0) % D) :
    Q1 * 4294967296 + Q0 = T / y ∧ R0 / S = T % y := by
  have hDp : 0 < D := by rw [hD]; exact Int.mul_pos hy hS
  have e1 := Int.mul_ediv_add_emod (u * 4294967296 + d1) D
  have e2 := Int.mul_ediv_add_emod (R1 * 4294967296 + d0) D
  have r0 := Int.emod_nonneg (R1 * 4294967296 + d0) (show D ≠ 0 by omega)
  have r1 := Int.emod_lt_of_pos (R1 * 4294967296 + d0) hDp
  rw [← hQ1, ← hR1] at e1
  rw [← hQ0, ← hR0] at e2
  rw [← hR0] at r0 r1
  have e3 : T * S = D * (Q1 * 4294967296 + Q0) + R0 := by
    rw [hT, Int.mul_add, ← Int.mul_assoc]
    omega
  have e4 : T * S / D = Q1 * 4294967296 + Q0 := by
    rw [e3, Int.add_comm, Int.add_mul_ediv_left _ _ (by omega), Int.ediv_eq_zero_of_lt r0 r1, Int.zero_add]
  have e5 : T * S % D = R0 := by
    rw [e3, Int.add_comm, Int.add_mul_emod_self_left, Int.emod_eq_of_lt r0 r1]
  rw [hD, Int.mul_ediv_mul_of_pos_left _ _ hS] at e4
  have e6 : y * S * (T / y) + T % y * S = T * S := by
    have := Int.mul_ediv_add_emod T y
    rw [Int.mul_right_comm, ← Int.add_mul, this]
  have e7 : 0 ≤ T % y := Int.emod_nonneg _ (by omega)
  have e8 : T % y < y := Int.emod_lt_of_pos _ hy
  have e9 : T * S % D = T % y * S := by
    rw [hD, ← e6, Int.add_comm, Int.add_mul_emod_self_left]
    exact Int.emod_eq_of_lt (Int.mul_nonneg e7 (Int.le_of_lt hS)) (Int.mul_lt_mul_of_pos_right e8 hS)
  rw [e9] at e5
  refine ⟨e4.symm, ?_⟩
  rw [← e5, Int.mul_ediv_cancel _ (by omega)]
end Go.Proofs.YtekocoklfnojmaaGreatDoor

namespace Go.Proofs.YtekocoklfnojmaaGreatDoor
open Go.RowKit

theorem and_word {z : Nat} (h : z < 18446744073709551616) : bits BinOp.and IntKind.u64 (z : Int) 4294967295 = ((z % 4294967296 : Nat) : Int) := by
  have := bits_and_u64_nat z 4294967295 h (by omega)
  rw [show (4294967295 : Nat) = 2 ^ 32 - 1 from rfl, Nat.and_two_pow_sub_one_eq_mod] at this
  exact this

set_option maxRecDepth 100000 in
set_option maxHeartbeats 4000000 in
theorem div64_any (hi lo y k : Nat) (hlt : hi < y) (hz : hi ≠ 0) (hl : lo < 18446744073709551616) (hy0 : 2 ^ (63 - k) ≤ y) (hy1 : y < 2 ^ (64 - k)) (hk : k ≤ 63) (w : World) :
    Calls Tryz.prog 164 #[.int .u64 (hi : Int), .int .u64 (lo : Int), .int .u64 (y : Int)] w fun r w' => r = .returned (.tuple #[.int .u64 (((hi * 18446744073709551616 + lo) / y : Nat) : Int), .int .u64 (((hi * 18446744073709551616 + lo) % y : Nat) : Int)]) ∧ w = w' := by
  obtain ⟨na, nb, nc, nd⟩ := norm_words hl (show k ≤ 64 by omega) (Nat.lt_trans hlt hy1)
  have hp : 0 < 2 ^ k := Nat.pow_pos (by omega)
  have hD0 : 9223372036854775808 ≤ y * 2 ^ k := by
    have := Nat.mul_le_mul_right (2 ^ k) hy0
    rwa [← Nat.pow_add, show 63 - k + k = 63 by omega] at this
  have hD1 : y * 2 ^ k < 18446744073709551616 := by
    have := Nat.mul_lt_mul_of_pos_right hy1 hp
    rwa [← Nat.pow_add, show 64 - k + k = 64 by omega] at this
  have hU : hi * 2 ^ k + lo / 2 ^ (64 - k) < y * 2 ^ k := by
    have h1 : (hi * 18446744073709551616 + lo) * 2 ^ k < (y * 18446744073709551616) * 2 ^ k := Nat.mul_lt_mul_of_pos_right (by omega) hp
    rw [Nat.mul_right_comm y] at h1
    omega
  have CL := Lib.hid (lz_any hy0 hy1 hk)
  have hs0 : IntKind.u64.wrap ((y : Int) * 2 ^ k) = ((y * 2 ^ k : Nat) : Int) := by rw [← cast_mulpow]; exact wrap_nat hD1
  have hs1 : IntKind.u64.wrap ((hi : Int) * 2 ^ k) = ((hi * 2 ^ k : Nat) : Int) := by rw [← cast_mulpow]; exact wrap_nat nd
  have hs2 : (lo : Int) / 2 ^ (64 - k) = ((lo / 2 ^ (64 - k) : Nat) : Int) := (cast_divpow _ _).symm
  have hs3 := or_add nc nb
  have hs4 : IntKind.u64.wrap ((lo : Int) * 2 ^ k) = ((lo * 2 ^ k % 18446744073709551616 : Nat) : Int) := by rw [IntKind.wrap_u64]; exact (cast_modpow lo k 18446744073709551616).symm
  have hs5 : (lo : Int) * 2 ^ k % 18446744073709551616 = ((lo * 2 ^ k % 18446744073709551616 : Nat) : Int) := (cast_modpow lo k 18446744073709551616).symm
  have hZ : lo * 2 ^ k % 18446744073709551616 < 18446744073709551616 := Nat.mod_lt _ (by omega)
  have hw1 := and_word hD1
  have hw2 := and_word hZ
  have hDk := Lib.hid (show ((y * 2 ^ k : Nat) : Int) = (y : Int) * ((2 ^ k : Nat) : Int) from Int.natCast_mul _ _)
  have hT := Lib.hid na
  have hPk := Lib.hid (show ((2 ^ k : Nat) : Int) = 2 ^ k from cast_pow2 k)
  have HP := Lib.hid hp
  generalize hi * 2 ^ k + lo / 2 ^ (64 - k) = U at *
  generalize hi * 2 ^ k = A at *
  generalize lo / 2 ^ (64 - k) = X at *
  generalize lo * 2 ^ k % 18446744073709551616 = Z at *
  generalize y * 2 ^ k = D at *
  clear na nb nc nd hp hy0 hy1
  have hyz : ((y : Int) == 0) = false := by rw [beq_eq_false_iff_ne]; omega
  have hhz : ((hi : Int) == 0) = false := by rw [beq_eq_false_iff_ne]; omega
  have k0 : (0 : Int) ≤ (k : Int) := by omega
  have k1 : (0 : Int) ≤ 64 - (k : Int) := by omega
  have k2 : (k : Int) ≤ 64 := by omega
  go_enter Tryz.func164, Tryz.ntmps164
  go_upto_region 7 with fail
  go_upto_block 0 with (refine (CL.out _).mono ?_; rintro e w' ⟨rfl, rfl⟩)
  have ha0 : 2147483648 ≤ (D : Int) / 4294967296 := by omega
  have ha1 : (D : Int) / 4294967296 < 4294967296 := by omega
  have hb0 : 0 ≤ (D : Int) % 4294967296 := by omega
  have hb1 : (D : Int) % 4294967296 < 4294967296 := by omega
  have hDab : (D : Int) = (D : Int) / 4294967296 * 4294967296 + (D : Int) % 4294967296 := by omega
  have hd0 : 0 ≤ (Z : Int) / 4294967296 ∧ (Z : Int) / 4294967296 < 4294967296 := by omega
  have he0 : 0 ≤ (Z : Int) % 4294967296 ∧ (Z : Int) % 4294967296 < 4294967296 := by omega
  have hZab : (Z : Int) = (Z : Int) / 4294967296 * 4294967296 + (Z : Int) % 4294967296 := by omega
  have hUD : (U : Int) < (D : Int) := by omega
  have hU0 : 0 ≤ (U : Int) := by omega
  have hDmax : (D : Int) ≤ 18446744073709551615 := by omega
  obtain ⟨a, ha⟩ : ∃ a, (D : Int) / 4294967296 = a := ⟨_, rfl⟩
  obtain ⟨b, hb⟩ : ∃ b, (D : Int) % 4294967296 = b := ⟨_, rfl⟩
  obtain ⟨c, hc⟩ : ∃ c, (Z : Int) / 4294967296 = c := ⟨_, rfl⟩
  obtain ⟨d, hd⟩ : ∃ d, (Z : Int) % 4294967296 = d := ⟨_, rfl⟩
  obtain ⟨u, hu⟩ : ∃ u : Int, (U : Int) = u := ⟨_, rfl⟩
  obtain ⟨e, he⟩ : ∃ e : Int, (D : Int) = e := ⟨_, rfl⟩
  rw [ha, hb] at hDab
  rw [hc, hd] at hZab
  rw [ha] at ha0 ha1
  rw [hb] at hb0 hb1
  rw [hc] at hd0
  rw [hd] at he0
  rw [ha, hb, hc, hd]
  clear ha hb hc hd
  rw [hu] at hUD hU0
  rw [he] at hDab hUD hDmax
  rw [hu, he]
  have D1 : Dig u a b c := ⟨ha0, ha1, hb0, hb1, hU0, by omega, hd0.1, hd0.2⟩
  have DG := Lib.hid D1
  obtain ⟨g0, g1, g2, g3, g4, g5⟩ := D1.start
  have q0 := D1.q0
  have q1 := D1.q1
  obtain ⟨Q, hQ⟩ : ∃ Q, digQ u a b c = Q := ⟨_, rfl⟩
  rw [hQ] at g0 q0 q1
  obtain ⟨R, hR⟩ : ∃ R, digR u a b c = R := ⟨_, rfl⟩
  obtain ⟨r1, r2, r3⟩ := D1.rest e hDab
  rw [hQ, hR] at r1
  rw [hR] at r2 r3
  have HQ := Lib.hid hQ
  have HR := Lib.hid hR
  have D2 : Dig R a b d := ⟨ha0, ha1, hb0, hb1, r2, by omega, he0.1, he0.2⟩
  have DG2 := Lib.hid D2
  obtain ⟨j0, j1, j2, j3, j4, j5⟩ := D2.start
  have s0 := D2.q0
  have s1 := D2.q1
  obtain ⟨S, hS⟩ : ∃ S, digQ R a b d = S := ⟨_, rfl⟩
  rw [hS] at j0 s0 s1
  obtain ⟨V, hV⟩ : ∃ V, digR R a b d = V := ⟨_, rfl⟩
  obtain ⟨v1, v2, v3⟩ := D2.rest e hDab
  rw [hS, hV] at v1
  rw [hV] at v2 v3
  have HS := Lib.hid hS
  have HV := Lib.hid hV
  have FIN := Lib.hid (dig_two (T := ((hi * 18446744073709551616 + lo : Nat) : Int)) (S := ((2 ^ k : Nat) : Int)) (y := (y : Int)) (D := e) (u := u) (d1 := c) (d0 := d) (Q1 := Q) (R1 := R) (Q0 := S) (R0 := V)
    (Int.ofNat_lt.2 HP.out) (by omega) (by rw [← he]; exact hDk.out)
    (by
      have h := congrArg (Nat.cast (R := Int)) hT.out
      rw [Int.natCast_mul (hi * 18446744073709551616 + lo)] at h
      rw [← h, Int.natCast_add, Int.natCast_mul, hu, hZab]
      omega)
    (by rw [← hQ, digQ, hDab]) (by rw [← hR, digR, hDab]) (by rw [← hS, digQ, hDab]) (by rw [← hV, digR, hDab]))
  clear hQ hR hS hV D1 D2 hDk hT HP hw1 hw2 hs0 hs1 hs2 hs3 hs4 hs5 CL
  have w1 : IntKind.u64.wrap (u / a) = u / a := by rw [IntKind.wrap_u64]; omega
  have w2 : IntKind.u64.wrap (u - IntKind.u64.wrap (u / a * a)) = u % a := by
    rw [← g3]
    have : 0 ≤ u / a * a := Int.mul_nonneg g2 (by omega)
    rw [IntKind.wrap_u64, IntKind.wrap_u64]
    omega
  rw [w1, w2]
  clear hDab hZab w1 w2
  go_cut [15, 16] from 67 to 85 (fun p r wx => ∃ q : Int, p = .int .u64 Q ∧ r = .int .u64 q ∧ wx = w)
  case first =>
    go_wp2
    go_loopw [15, 16] (fun p r wr => ∃ q : Int, p = .int .u64 q ∧ r = .int .u64 (u - q * a) ∧ Q ≤ q ∧ q ≤ 4294967297 ∧ 0 ≤ u - q * a ∧ u - q * a < 4294967296 ∧ wr = w) (fun p _ _ => (intOf p).toNat)
    case atStart => exact ⟨u / a, rfl, by rw [g3], by omega, by omega, by omega, by omega, rfl⟩
    case round =>
      obtain ⟨q, rfl, rfl, i0, i1, i2, i3, rfl⟩ := hrel
      have ht := DG.out.test q _ rfl
      have hp := fun h => DG.out.prod (q := q) (by omega) h
      have hs := DG.out.stop (q - 1) (u - q * a + a) (dig_next rfl) (by omega)
      have hn := dig_next (u := u) (q := q) (a := a) rfl
      rw [HQ.out] at ht hs
      obtain ⟨z, hz⟩ : ∃ z, u - q * a = z := ⟨_, rfl⟩
      rw [hz] at i2 i3 ht hs hn ⊢
      have HZ := Lib.hid hz
      have HN := Lib.hid hn
      clear hz hn
      have HS2 := Lib.hid hs; clear hs
      by_cases hq : 4294967296 ≤ q
      · have hlt2 := Lib.hid (show Q < q by omega)
        have hq1 : 1 ≤ q := by omega
        clear ht hp
        by_cases hbr : 4294967296 ≤ z + a
        · have hQq := Lib.hid (show q - 1 = Q by have := HS2.out hbr; have := hlt2.out; omega)
          go_wp2
          go_meet
          exact ⟨_, by rw [hQq.out], rfl, by first | rfl | trivial⟩
        · go_wp2
          go_roundw
          case rel => exact ⟨q - 1, rfl, by rw [HN.out], by have := hlt2.out; omega, by omega, by rw [← HN.out]; omega, by rw [← HN.out]; omega, by first | rfl | trivial⟩
          case measure => simp [intOf] <;> omega
      · obtain ⟨p0, p1⟩ := hp (by omega)
        clear hp
        obtain ⟨m, hm⟩ : ∃ m, q * b = m := ⟨_, rfl⟩
        rw [hm] at p0 p1 ht
        by_cases htt : 4294967296 * z + c < m
        · have hlt2 := Lib.hid (ht.1 htt)
          have hq1 : 1 ≤ q := by have := hlt2.out; omega
          clear ht
          by_cases hbr : 4294967296 ≤ z + a
          · have hQq := Lib.hid (show q - 1 = Q by have := HS2.out hbr; have := hlt2.out; omega)
            go_wp2
            go_meet
            exact ⟨_, by rw [hQq.out], rfl, by first | rfl | trivial⟩
          · go_wp2
            go_roundw
            case rel => exact ⟨q - 1, rfl, by rw [HN.out], by have := hlt2.out; omega, by omega, by rw [← HN.out]; omega, by rw [← HN.out]; omega, by first | rfl | trivial⟩
            case measure => simp [intOf] <;> omega
        · have hQq := Lib.hid (show q = Q by have := fun h => htt (ht.2 h); omega)
          clear ht
          go_wp2
          go_meet
          exact ⟨_, by rw [hQq.out], rfl, by first | rfl | trivial⟩
  case rest =>
    obtain ⟨q9, rfl, rfl, hwc⟩ := hcut
    rw [hwc]
    clear hwc
    have x1 : IntKind.u64.wrap (R / a) = R / a := by rw [IntKind.wrap_u64]; omega
    have x2 : IntKind.u64.wrap (R - IntKind.u64.wrap (R / a * a)) = R % a := by
      rw [← j3]
      have : 0 ≤ R / a * a := Int.mul_nonneg j2 (by omega)
      rw [IntKind.wrap_u64, IntKind.wrap_u64]
      omega
    go_upto_block 2 with fail
    clear x1 x2
    go_cut [18, 16] from 102 to 120 (fun p r wx => ∃ q : Int, p = .int .u64 S ∧ r = .int .u64 q ∧ wx = w)
    case first =>
      go_wp2
      go_loopw [18, 16] (fun p r wr => ∃ q : Int, p = .int .u64 q ∧ r = .int .u64 (R - q * a) ∧ S ≤ q ∧ q ≤ 4294967297 ∧ 0 ≤ R - q * a ∧ R - q * a < 4294967296 ∧ wr = w) (fun p _ _ => (intOf p).toNat)
      case atStart => exact ⟨R / a, rfl, by rw [j3], by omega, by omega, by omega, by omega, rfl⟩
      case round =>
        obtain ⟨q, rfl, rfl, i0, i1, i2, i3, rfl⟩ := hrel
        have ht := DG2.out.test q _ rfl
        have hp := fun h => DG2.out.prod (q := q) (by omega) h
        have hs := DG2.out.stop (q - 1) (R - q * a + a) (dig_next rfl) (by omega)
        have hn := dig_next (u := R) (q := q) (a := a) rfl
        rw [HS.out] at ht hs
        obtain ⟨z, hz⟩ : ∃ z, R - q * a = z := ⟨_, rfl⟩
        rw [hz] at i2 i3 ht hs hn ⊢
        have HZ := Lib.hid hz
        have HN := Lib.hid hn
        clear hz hn
        have HS2 := Lib.hid hs; clear hs
        by_cases hq : 4294967296 ≤ q
        · have hlt2 := Lib.hid (show S < q by omega)
          have hq1 : 1 ≤ q := by omega
          clear ht hp
          by_cases hbr : 4294967296 ≤ z + a
          · have hQq := Lib.hid (show q - 1 = S by have := HS2.out hbr; have := hlt2.out; omega)
            go_wp2
            go_meet
            exact ⟨_, by rw [hQq.out], rfl, by first | rfl | trivial⟩
          · go_wp2
            go_roundw
            case rel => exact ⟨q - 1, rfl, by rw [HN.out], by have := hlt2.out; omega, by omega, by rw [← HN.out]; omega, by rw [← HN.out]; omega, by first | rfl | trivial⟩
            case measure => simp [intOf] <;> omega
        · obtain ⟨p0, p1⟩ := hp (by omega)
          clear hp
          obtain ⟨m, hm⟩ : ∃ m, q * b = m := ⟨_, rfl⟩
          rw [hm] at p0 p1 ht
          by_cases htt : 4294967296 * z + d < m
          · have hlt2 := Lib.hid (ht.1 htt)
            have hq1 : 1 ≤ q := by have := hlt2.out; omega
            clear ht
            by_cases hbr : 4294967296 ≤ z + a
            · have hQq := Lib.hid (show q - 1 = S by have := HS2.out hbr; have := hlt2.out; omega)
              go_wp2
              go_meet
              exact ⟨_, by rw [hQq.out], rfl, by first | rfl | trivial⟩
            · go_wp2
              go_roundw
              case rel => exact ⟨q - 1, rfl, by rw [HN.out], by have := hlt2.out; omega, by omega, by rw [← HN.out]; omega, by rw [← HN.out]; omega, by first | rfl | trivial⟩
              case measure => simp [intOf] <;> omega
          · have hQq := Lib.hid (show q = S by have := fun h => htt (ht.2 h); omega)
            clear ht
            go_wp2
            go_meet
            exact ⟨_, by rw [hQq.out], rfl, by first | rfl | trivial⟩
    case rest =>
      obtain ⟨q9, rfl, rfl, hwc⟩ := hcut
      rw [hwc]
      clear hwc
      have hf1 : Q * 4294967296 + S = (((hi * 18446744073709551616 + lo) / y : Nat) : Int) := by rw [FIN.out.1]; exact (Int.natCast_ediv _ _).symm
      have hf2 : V / 2 ^ k = (((hi * 18446744073709551616 + lo) % y : Nat) : Int) := by rw [← hPk.out, FIN.out.2]; exact (Int.natCast_emod _ _).symm
      obtain ⟨F1, hF1⟩ : ∃ F1, (hi * 18446744073709551616 + lo) / y = F1 := ⟨_, rfl⟩
      obtain ⟨F2, hF2⟩ : ∃ F2, (hi * 18446744073709551616 + lo) % y = F2 := ⟨_, rfl⟩
      rw [hF1] at hf1
      rw [hF2] at hf2
      have HF1 := Lib.hid hF1
      have HF2 := Lib.hid hF2
      clear hF1 hF2
      go_wp2
      go_ret2
      exact ⟨by rw [HF1.out, HF2.out]; rfl, rfl⟩
end Go.Proofs.YtekocoklfnojmaaGreatDoor
