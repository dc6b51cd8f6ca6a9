/- What float.Add, Sub and Mul do, and the quotient of one and two. -/
import Derived.Test.YtpjfipjmpppjcaaCFfma
namespace Go.Proofs.Ytpjfipjmpppjcaa
open Go.RowKit

def faddF (a b : Nat) (mode : Int) : Nat := fmaF a 4607182418800017408 b mode
def fmulF (a b : Nat) (mode : Int) : Nat := fmaF a b (sgz (fneg a != fneg b)) mode

set_option maxRecDepth 100000 in
theorem fadd_any (a b : Nat) (mode : Int) (ha : a < 18446744073709551616) (hb : b < 18446744073709551616) (w : World) :
    Calls Try.prog 10 #[.int .u64 (a : Int), .int .u64 (b : Int), .int .i64 mode] w fun r w' => r = .returned (.int .u64 ((faddF a b mode : Nat) : Int)) ∧ Ext w w' := by
  unfold faddF
  have C := ffma_any a 4607182418800017408 b mode ha (by omega) hb
  generalize fmaF a 4607182418800017408 b mode = R at *
  rw [show ((4607182418800017408 : Nat) : Int) = 4607182418800017408 from rfl] at C
  have C := Lib.hid C
  go_enter Try.func10, Try.ntmps10
  go_wp2_with fail
  refine (C.out _).mono ?_
  rintro r w1 ⟨rfl, hE⟩
  go_wp2
  go_ret
  exact ⟨rfl, hE⟩

set_option maxRecDepth 100000 in
theorem fmul_any (a b : Nat) (mode : Int) (ha : a < 18446744073709551616) (hb : b < 18446744073709551616) (w : World) :
    Calls Try.prog 11 #[.int .u64 (a : Int), .int .u64 (b : Int), .int .i64 mode] w fun r w' => r = .returned (.int .u64 ((fmulF a b mode : Nat) : Int)) ∧ Ext w w' := by
  unfold fmulF
  have hx : a ^^^ b < 18446744073709551616 := Nat.xor_lt_two_pow (n := 64) (by omega) (by omega)
  have h1 := bits_xor_u64_nat a b ha hb
  have CS := signOf_any (a ^^^ b) hx
  rw [fneg_xor ha hb] at CS
  have C := ffma_any a b (sgz (fneg a != fneg b)) mode ha hb (by have := sgz_le (fneg a != fneg b); omega)
  generalize a ^^^ b = x at *
  generalize fmaF a b (sgz (fneg a != fneg b)) mode = R at *
  generalize sgz (fneg a != fneg b) = z at *
  have C := Lib.hid C
  have CS := Lib.hid CS
  go_enter Try.func11, Try.ntmps11
  go_wp2_with fail
  refine (CS.out _).mono ?_
  rintro r w1 ⟨rfl, rfl⟩
  go_wp2_with fail
  refine (C.out _).mono ?_
  rintro r w1 ⟨rfl, hE⟩
  go_wp2
  go_ret
  exact ⟨rfl, hE⟩

set_option maxRecDepth 100000 in
theorem fnormal_one (e : Int) (he0 : -100000 ≤ e) (he1 : e ≤ 100000) (w : World) :
    Calls Try.prog 39 #[.agg #[.int .u64 0, .int .u64 4503599627370496, .int .i64 e, .bool false]] w fun r w' => r = .returned (.agg #[.int .u64 9223372036854775808, .int .u64 0, .int .i64 (e - 75), .bool false]) ∧ Ext w w' := by
  have := fnormal_lo 4503599627370496 11 e false (by decide) (by decide) (by omega) (by omega) (by omega) w
  rw [show e - 64 - ((11 : Nat) : Int) = e - 75 by omega] at this
  exact this

end Go.Proofs.Ytpjfipjmpppjcaa
