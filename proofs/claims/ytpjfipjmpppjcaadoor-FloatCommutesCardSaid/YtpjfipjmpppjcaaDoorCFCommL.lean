/- FloatCommutes returns true, from what its callees do. -/
import Derived.Test.YtpjfipjmpppjcaaDoorCFcomm2
import Derived.Test.YtpjfipjmpppjcaaDoorCFAwake
import Derived.Test.YtpjfipjmpppjcaaDoorCFord
namespace Go.Proofs.YtpjfipjmpppjcaaDoor
open Go.RowKit

theorem fadd_at {aI bI : Int} (a b : Nat) (mode : Int) (ha : a < 18446744073709551616) (hb : b < 18446744073709551616) (hA : (a : Int) = aI) (hB : (b : Int) = bI) (R : Nat) (hR : faddF a b mode = R) (w : World) :
    Calls Tryd.prog 31 #[.int .u64 aI, .int .u64 bI, .int .i64 mode] w fun r w' => r = .returned (.int .u64 (R : Int)) ∧ Ext w w' := by
  rw [← hA, ← hB, ← hR]; exact fadd_any a b mode ha hb w
theorem fmul_at {aI bI : Int} (a b : Nat) (mode : Int) (ha : a < 18446744073709551616) (hb : b < 18446744073709551616) (hA : (a : Int) = aI) (hB : (b : Int) = bI) (R : Nat) (hR : fmulF a b mode = R) (w : World) :
    Calls Tryd.prog 32 #[.int .u64 aI, .int .u64 bI, .int .i64 mode] w fun r w' => r = .returned (.int .u64 (R : Int)) ∧ Ext w w' := by
  rw [← hA, ← hB, ← hR]; exact fmul_any a b mode ha hb w
theorem fdiv_at {aI bI : Int} (a b : Nat) (mode : Int) (ha : a < 18446744073709551616) (hb : b < 18446744073709551616) (hA : (a : Int) = aI) (hB : (b : Int) = bI) (R : Nat) (hR : fdivF a b mode = R) (w : World) :
    Calls Tryd.prog 34 #[.int .u64 aI, .int .u64 bI, .int .i64 mode] w fun r w' => r = .returned (.int .u64 (R : Int)) ∧ Ext w w' := by
  rw [← hA, ← hB, ← hR]; exact fdiv_any a b mode ha hb w
theorem ffma_at {aI bI cI : Int} (a b c : Nat) (mode : Int) (ha : a < 18446744073709551616) (hb : b < 18446744073709551616) (hc : c < 18446744073709551616) (hA : (a : Int) = aI) (hB : (b : Int) = bI) (hC : (c : Int) = cI) (R : Nat) (hR : fmaF a b c mode = R) (w : World) :
    Calls Tryd.prog 33 #[.int .u64 aI, .int .u64 bI, .int .u64 cI, .int .i64 mode] w fun r w' => r = .returned (.int .u64 (R : Int)) ∧ Ext w w' := by
  rw [← hA, ← hB, ← hC, ← hR]; exact ffma_any a b c mode ha hb hc w
theorem kind_at' (f : Nat) (hf : f < 18446744073709551616) (k : Int) (hk : fkind f = k) (w : World) :
    Calls Tryd.prog 35 #[.int .u64 (f : Int)] w fun e w' => e = .returned (.int .i64 k) ∧ w = w' := by
  rw [← hk]; exact kind_any f hf w
theorem kind_nan {f : Nat} : fkind f = 3 ↔ nanB f = true := by
  have h := fkind_cases f
  unfold nanB
  rw [decide_eq_true_iff]
  omega

set_option maxRecDepth 100000 in
set_option maxHeartbeats 4000000 in
theorem fcommL_any (a b c : Nat) (mode : Int) (ha : a < 18446744073709551616) (hb : b < 18446744073709551616) (hc : c < 18446744073709551616) (w : World) (hT : Table w) :
    Calls Tryd.prog 4 #[.int .u64 (a : Int), .int .u64 (b : Int), .int .u64 (c : Int), .int .i64 mode] w fun e w' => e = .returned (.bool true) ∧ Ext w w' := by
  have HT := Lib.hid hT
  have EX := Lib.hid (Ext.refl w)
  clear hT
  have h1 : (4607182418800017408 : Nat) < 18446744073709551616 := by decide
  have hz : (9223372036854775808 : Nat) < 18446744073709551616 := by decide
  obtain ⟨R1, r1⟩ : ∃ R, faddF a b mode = R := ⟨_, rfl⟩
  obtain ⟨R2, r2⟩ : ∃ R, fmulF a b mode = R := ⟨_, rfl⟩
  obtain ⟨R3, r3⟩ : ∃ R, fmaF a b c mode = R := ⟨_, rfl⟩
  obtain ⟨R4, r4⟩ : ∃ R, faddF a c mode = R := ⟨_, rfl⟩
  obtain ⟨R5, r5⟩ : ∃ R, fmulF a 4607182418800017408 mode = R := ⟨_, rfl⟩
  have C1 := Lib.hid (fadd_at a b mode ha hb rfl rfl R1 r1)
  have C2 := Lib.hid (fadd_at b a mode hb ha rfl rfl R1 (by rw [faddF_comm hb ha, r1]))
  have C3 := Lib.hid (fmul_at a b mode ha hb rfl rfl R2 r2)
  have C4 := Lib.hid (fmul_at b a mode hb ha rfl rfl R2 (by rw [fmulF_comm, r2]))
  have C5 := Lib.hid (ffma_at a b c mode ha hb hc rfl rfl rfl R3 r3)
  have C6 := Lib.hid (ffma_at b a c mode hb ha hc rfl rfl rfl R3 (by rw [fmaF_comm, r3]))
  have C7 := Lib.hid (ffma_at (bI := 4607182418800017408) a 4607182418800017408 c mode ha h1 hc rfl rfl rfl R4 r4)
  have C8 := Lib.hid (fadd_at a c mode ha hc rfl rfl R4 r4)
  have C9 := Lib.hid (fmul_at (bI := 4607182418800017408) a 4607182418800017408 mode ha h1 rfl rfl R5 r5)
  have C10 := Lib.hid (fdiv_at (bI := 4607182418800017408) a 4607182418800017408 mode ha h1 rfl rfl R5 (by rw [← mul_div_one ha, r5]))
  have e1 : ((R1 : Int) != R1) = false := by simp
  have e2 : ((R2 : Int) != R2) = false := by simp
  have e3 : ((R3 : Int) != R3) = false := by simp
  have e4 : ((R4 : Int) != R4) = false := by simp
  have e5 : ((R5 : Int) != R5) = false := by simp
  obtain ⟨k, hk⟩ : ∃ k, fkind a = k := ⟨_, rfl⟩
  have CK := Lib.hid (kind_at' a ha k hk)
  cases hn : nanB a with
  | true =>
    have hk3 : k = 3 := by rw [← hk]; exact kind_nan.2 hn
    have C11 := Lib.hid (fadd_at (bI := 9223372036854775808) a 9223372036854775808 0 ha hz rfl rfl 9221120237041090560 (nan_sum hn _ _))
    subst hk3
    clear hn hk r1 r2 r3 r4 r5 ha hb hc h1 hz
    go_enter Tryd.func4, Tryd.ntmps4
    go_wp2_with fail
    refine (C1.out _).mono ?_
    rintro r w1 ⟨rfl, hE⟩
    have EX := Lib.hid (Ext.trans EX.out hE)
    clear hE
    go_wp2_with fail
    refine (C2.out _).mono ?_
    rintro r w2 ⟨rfl, hE⟩
    have EX := Lib.hid (Ext.trans EX.out hE)
    clear hE
    go_wp2_with fail
    refine (C3.out _).mono ?_
    rintro r w3 ⟨rfl, hE⟩
    have EX := Lib.hid (Ext.trans EX.out hE)
    clear hE
    go_wp2_with fail
    refine (C4.out _).mono ?_
    rintro r w4 ⟨rfl, hE⟩
    have EX := Lib.hid (Ext.trans EX.out hE)
    clear hE
    go_wp2_with fail
    refine (C5.out _).mono ?_
    rintro r w5 ⟨rfl, hE⟩
    have EX := Lib.hid (Ext.trans EX.out hE)
    clear hE
    go_wp2_with fail
    refine (C6.out _).mono ?_
    rintro r w6 ⟨rfl, hE⟩
    have EX := Lib.hid (Ext.trans EX.out hE)
    clear hE
    go_wp2_with fail
    refine (C7.out _).mono ?_
    rintro r w7 ⟨rfl, hE⟩
    have EX := Lib.hid (Ext.trans EX.out hE)
    clear hE
    go_wp2_with fail
    refine (C8.out _).mono ?_
    rintro r w8 ⟨rfl, hE⟩
    have EX := Lib.hid (Ext.trans EX.out hE)
    clear hE
    go_wp2_with fail
    refine (C9.out _).mono ?_
    rintro r w9 ⟨rfl, hE⟩
    have EX := Lib.hid (Ext.trans EX.out hE)
    clear hE
    go_wp2_with fail
    refine (C10.out _).mono ?_
    rintro r w10 ⟨rfl, hE⟩
    have EX := Lib.hid (Ext.trans EX.out hE)
    clear hE
    go_wp2_with fail
    refine (CK.out _).mono ?_
    rintro r w11 ⟨rfl, rfl⟩
    go_wp2_with fail
    refine (C11.out _).mono ?_
    rintro r w12 ⟨rfl, hE⟩
    have EX := Lib.hid (Ext.trans EX.out hE)
    clear hE
    go_wp2_with fail
    refine (fawake_any _ (HT.out.below EX.out)).mono ?_
    rintro r wz ⟨rfl, hE⟩
    go_wp2
    go_ret
    exact ⟨rfl, Ext.trans EX.out hE⟩
  | false =>
    have hk3 : k ≠ 3 := by rw [← hk]; intro h; rw [kind_nan.1 h] at hn; cases hn
    have hkk : (k == 3) = false := beq_eq_false_iff_ne.2 hk3
    have C11 := Lib.hid (fadd_at (bI := 9223372036854775808) a 9223372036854775808 0 ha hz rfl rfl a (add_negzero ha hn))
    have C12 := Lib.hid (fmul_at (bI := 4607182418800017408) a 4607182418800017408 mode ha h1 rfl rfl a (mul_one ha hn mode))
    have e6 : ((a : Int) == a) = true := by simp
    clear hn hk hk3 r1 r2 r3 r4 r5 ha hb hc h1 hz
    go_enter Tryd.func4, Tryd.ntmps4
    go_wp2_with fail
    refine (C1.out _).mono ?_
    rintro r w1 ⟨rfl, hE⟩
    have EX := Lib.hid (Ext.trans EX.out hE)
    clear hE
    go_wp2_with fail
    refine (C2.out _).mono ?_
    rintro r w2 ⟨rfl, hE⟩
    have EX := Lib.hid (Ext.trans EX.out hE)
    clear hE
    go_wp2_with fail
    refine (C3.out _).mono ?_
    rintro r w3 ⟨rfl, hE⟩
    have EX := Lib.hid (Ext.trans EX.out hE)
    clear hE
    go_wp2_with fail
    refine (C4.out _).mono ?_
    rintro r w4 ⟨rfl, hE⟩
    have EX := Lib.hid (Ext.trans EX.out hE)
    clear hE
    go_wp2_with fail
    refine (C5.out _).mono ?_
    rintro r w5 ⟨rfl, hE⟩
    have EX := Lib.hid (Ext.trans EX.out hE)
    clear hE
    go_wp2_with fail
    refine (C6.out _).mono ?_
    rintro r w6 ⟨rfl, hE⟩
    have EX := Lib.hid (Ext.trans EX.out hE)
    clear hE
    go_wp2_with fail
    refine (C7.out _).mono ?_
    rintro r w7 ⟨rfl, hE⟩
    have EX := Lib.hid (Ext.trans EX.out hE)
    clear hE
    go_wp2_with fail
    refine (C8.out _).mono ?_
    rintro r w8 ⟨rfl, hE⟩
    have EX := Lib.hid (Ext.trans EX.out hE)
    clear hE
    go_wp2_with fail
    refine (C9.out _).mono ?_
    rintro r w9 ⟨rfl, hE⟩
    have EX := Lib.hid (Ext.trans EX.out hE)
    clear hE
    go_wp2_with fail
    refine (C10.out _).mono ?_
    rintro r w10 ⟨rfl, hE⟩
    have EX := Lib.hid (Ext.trans EX.out hE)
    clear hE
    go_wp2_with fail
    refine (CK.out _).mono ?_
    rintro r w11 ⟨rfl, rfl⟩
    go_wp2_with fail
    refine (C11.out _).mono ?_
    rintro r w12 ⟨rfl, hE⟩
    have EX := Lib.hid (Ext.trans EX.out hE)
    clear hE
    go_wp2_with fail
    refine (C12.out _).mono ?_
    rintro r w13 ⟨rfl, hE⟩
    have EX := Lib.hid (Ext.trans EX.out hE)
    clear hE
    go_wp2_with fail
    refine (fawake_any _ (HT.out.below EX.out)).mono ?_
    rintro r wz ⟨rfl, hE⟩
    go_wp2
    go_ret
    exact ⟨rfl, Ext.trans EX.out hE⟩

theorem fcommL_int (i j l : Int) (mode : Int) (w : World) (hi0 : 0 ≤ i) (hi1 : i ≤ 18446744073709551615) (hj0 : 0 ≤ j) (hj1 : j ≤ 18446744073709551615) (hl0 : 0 ≤ l) (hl1 : l ≤ 18446744073709551615) (hT : Table w) :
    Calls Tryd.prog 4 #[.int .u64 i, .int .u64 j, .int .u64 l, .int .i64 mode] w fun e w' => e = .returned (.bool true) ∧ Ext w w' := by
  have h := fcommL_any i.toNat j.toNat l.toNat mode (by omega) (by omega) (by omega) w hT
  rw [Int.toNat_of_nonneg hi0, Int.toNat_of_nonneg hj0, Int.toNat_of_nonneg hl0] at h
  exact h
end Go.Proofs.YtpjfipjmpppjcaaDoor
