import Derived.Test.YtolghagbpnjpgaaGreatDoorFExactU17
import Derived.Test.YtolghagbpnjpgaaGreatDoorFExactU14
import Derived.Test.YtolghagbpnjpgaaGreatDoorFExactU8
import Derived.Test.YtolghagbpnjpgaaGreatDoorFExactU9
import Derived.Test.YtolghagbpnjpgaaGreatDoorFExactU0
import Derived.Test.YtolghagbpnjpgaaGreatDoorFExactU16
import Derived.Test.YtolghagbpnjpgaaGreatDoorFExactU7
import Derived.Test.YtolghagbpnjpgaaGreatDoorFExactU6
import Derived.Test.YtolghagbpnjpgaaGreatDoorFExactU5
import Derived.Test.YtolghagbpnjpgaaGreatDoorFExactU4
import Derived.Deep.RegionHeld3
import Derived.Test.YtolghagbpnjpgaaGreatDoorFExactU2
namespace Go.Proofs.YtolghagbpnjpgaaGreatDoor
open Go.RowKit

theorem and_one_i64 (e : Int) : bits BinOp.and IntKind.i64 e 1 = e % 2 := by
  have h1 : (BitVec.ofInt 64 e).toNat = (e % 18446744073709551616).toNat := by
    rw [BitVec.toNat_ofInt]; rfl
  have h2 : (BitVec.ofInt 64 (1 : Int)).toNat = 1 := by decide
  show IntKind.i64.wrap ((BitVec.ofInt 64 e &&& BitVec.ofInt 64 1).toNat : Int) = _
  rw [BitVec.toNat_and, h1, h2, Nat.and_one_is_mod, IntKind.wrap_i64]
  omega

theorem isqrt_ex (N : Nat) : ∃ s, s * s ≤ N ∧ N < (s + 1) * (s + 1) := by
  induction N with
  | zero => exact ⟨0, by omega, by omega⟩
  | succ n ih =>
    obtain ⟨s, h1, h2⟩ := ih
    by_cases h : n + 1 < (s + 1) * (s + 1)
    · exact ⟨s, by omega, h⟩
    · refine ⟨s + 1, by omega, ?_⟩
      have e : (s + 1 + 1) * (s + 1 + 1) = (s + 1) * (s + 1) + 2 * (s + 1) + 1 := by rw [Nat.add_mul (s + 1) 1, Nat.mul_add (s + 1) (s + 1) 1]; omega
      omega
theorem isqrt_bounds {N s a b : Nat} (h1 : s * s ≤ N) (h2 : N < (s + 1) * (s + 1)) (ha : a * a ≤ N) (hb : N < b * b) : a ≤ s ∧ s < b := by
  constructor
  · rcases Nat.lt_or_ge s a with h | h
    · have := Nat.mul_le_mul (show s + 1 ≤ a from h) (show s + 1 ≤ a from h)
      omega
    · exact h
  · rcases Nat.lt_or_ge s b with h | h
    · exact h
    · have := Nat.mul_le_mul h h
      omega

/-- a root's number: what is under it, and where -/
structure RootOf (N : Nat) (e : Int) (M hi lo r : Nat) (E : Int) (s : Nat) : Prop where
  val : M = N * 2 ^ s
  exp : 2 * E + s = e
  words : hi * 18446744073709551616 + lo = M
  hlo : lo < 18446744073709551616
  hi0 : 1152921504606846976 ≤ hi
  hi1 : hi < 4611686018427387904
  r0 : r * r ≤ M
  r1 : M < (r + 1) * (r + 1)
  r2 : 4611686018427387904 ≤ r
  r3 : r < 9223372036854775808

theorem root_of {N k d : Nat} {e : Int} (hk : 64 ≤ k) (hd : d = 2 ∨ d = 3) (h0 : 2 ^ 127 ≤ N * 2 ^ k) (h1 : N * 2 ^ k < 2 ^ 128) (hpar : (e - k + d) % 2 = 0) {H L : Nat} (hw : H * 18446744073709551616 + L = N * 2 ^ k / 2 ^ d) (hL : L < 18446744073709551616) :
    ∃ r E, RootOf N e (N * 2 ^ (k - d)) H L r E (k - d) ∧ e - k + d = 2 * E ∧ N * 2 ^ k % 2 ^ d = 0 := by
  obtain ⟨s, hs⟩ : ∃ s, k = s + d := ⟨k - d, by rcases hd with rfl | rfl <;> omega⟩
  subst hs
  have hp : 0 < 2 ^ d := Nat.pow_pos (by omega)
  have e1 : N * 2 ^ (s + d) = N * 2 ^ s * 2 ^ d := by rw [Nat.pow_add, Nat.mul_assoc]
  rw [e1, Nat.mul_div_cancel _ hp] at hw
  rw [e1] at h0 h1
  rw [e1, Nat.mul_mod_left, Nat.add_sub_cancel]
  have hM0 : 2 ^ 124 ≤ N * 2 ^ s := by
    rcases hd with rfl | rfl <;> omega
  have hM1 : N * 2 ^ s < 2 ^ 126 := by
    rcases hd with rfl | rfl <;> omega
  generalize hM : N * 2 ^ s = M at *
  obtain ⟨r, r1, r2⟩ := isqrt_ex M
  obtain ⟨b1, b2⟩ := isqrt_bounds (a := 4611686018427387904) (b := 9223372036854775808) r1 r2 (by omega) (by omega)
  obtain ⟨E, hE⟩ : ∃ E, e - ((s + d : Nat) : Int) + d = 2 * E := ⟨(e - ((s + d : Nat) : Int) + d) / 2, by omega⟩
  refine ⟨r, E, ⟨hM.symm, by push_cast at hE; omega, hw, hL, by omega, by omega, r1, r2, b1, b2⟩, hE, rfl⟩

theorem div_at {hi lo r : Nat} (hl : lo < 18446744073709551616) (h0 : hi ≠ 0) (h1 : hi < 4611686018427387904) (hr : 4611686018427387904 ≤ r) (hr2 : r ≤ 9223372036854775808) (w : World) :
    Calls Tryz.prog 135 #[.int .u64 (hi : Int), .int .u64 (lo : Int), .int .u64 (r : Int)] w fun e w' => e = .returned (.tuple #[.int .u64 (((hi * 18446744073709551616 + lo) / r : Nat) : Int), .int .u64 (((hi * 18446744073709551616 + lo) % r : Nat) : Int)]) ∧ w = w' := by
  by_cases h : r = 9223372036854775808
  · exact div64_any hi lo r 0 (by omega) h0 hl (by rw [h]; decide) (by rw [h]; decide) (by omega) w
  · exact div64_any hi lo r 1 (by omega) h0 hl (show 2 ^ 62 ≤ r from hr) (show r < 2 ^ 63 by omega) (by omega) w

set_option maxRecDepth 100000 in
set_option maxHeartbeats 2000000 in
theorem wordRoot_any {hi lo s : Nat} (hl : lo < 18446744073709551616) (h0 : 1152921504606846976 ≤ hi) (h1 : hi < 4611686018427387904) (r1 : s * s ≤ hi * 18446744073709551616 + lo) (r2 : hi * 18446744073709551616 + lo < (s + 1) * (s + 1)) (b1 : 4611686018427387904 ≤ s) (b2 : s < 9223372036854775808) (w : World) :
    Calls Tryz.prog 142 #[.int .u64 (hi : Int), .int .u64 (lo : Int)] w fun e w' => e = .returned (.int .u64 (s : Int)) ∧ w = w' := by
  have CD := Lib.hid (fun r (hr : s ≤ r) (hr2 : r ≤ 9223372036854775808) w => div_at (hi := hi) (lo := lo) (r := r) hl (by omega) h1 (by omega) hr2 w)
  have NE := Lib.hid (fun r (hs : s ≤ r) (hq : r ≤ (hi * 18446744073709551616 + lo) / r) => newton_end (N := hi * 18446744073709551616 + lo) (r := r) r2 hs (by omega) hq)
  have NS := Lib.hid (fun r (hs : s ≤ r) (hq : (hi * 18446744073709551616 + lo) / r < r) => newton_down (N := hi * 18446744073709551616 + lo) (r := r) r1 hs (by omega) hq)
  clear r1 r2 hl h0 h1
  go_enter Tryz.func142, Tryz.ntmps142
  go_wp2
  go_loopw [5] (fun q wx => ∃ r : Nat, q = .int .u64 (r : Int) ∧ s ≤ r ∧ r ≤ 9223372036854775808 ∧ w = wx) (fun q _ => (intOf q).toNat)
  case atStart => exact ⟨9223372036854775808, rfl, by omega, by omega, rfl⟩
  case round =>
    obtain ⟨r, rfl, h3, h4, rfl⟩ := hrel
    obtain ⟨Q, hQ⟩ : ∃ Q, (hi * 18446744073709551616 + lo) / r = Q := ⟨_, rfl⟩
    have CD1 := CD.out r h3 h4
    have NE1 := NE.out r h3
    have NS1 := NS.out r h3
    rw [hQ] at CD1 NE1 NS1
    have CD1 := Lib.hid CD1
    have NE1 := Lib.hid NE1
    have NS1 := Lib.hid NS1
    clear hQ
    by_cases hq : r ≤ Q
    · have hqi : (r : Int) ≤ (Q : Int) := by omega
      have HE := Lib.hid (NE1.out hq)
      clear hq
      go_wp2_with fail
      refine (CD1.out _).mono ?_
      rintro e w1 ⟨rfl, rfl⟩
      go_wp2
      go_ret
      refine ⟨?_, rfl⟩
      show Ending.returned (.int .u64 (r : Int)) = _
      rw [HE.out]
    · have hqi : ¬ (r : Int) ≤ (Q : Int) := by omega
      obtain ⟨k1, k2⟩ := NS1.out (by omega)
      have hw : IntKind.u64.wrap ((r : Int) + (Q : Int)) = (r : Int) + (Q : Int) := by rw [IntKind.wrap_u64]; omega
      have hd : ((r : Int) + (Q : Int)) / 2 = (((r + Q) / 2 : Nat) : Int) := by omega
      have HD := Lib.hid hd
      clear hd
      generalize (r + Q) / 2 = r' at *
      clear hq
      go_wp2_with fail
      refine (CD1.out _).mono ?_
      rintro e w1 ⟨rfl, rfl⟩
      go_wp2
      go_roundw
      case rel => exact ⟨r', by first | rfl | exact congrArg (Value.int IntKind.u64) HD.out, k1, by omega, by first | rfl | trivial⟩
      case measure => simp [intOf]; omega

theorem fdown_exact {hi lo K : Nat} {e kI : Int} (hk : (K : Int) = kI) (hh : hi < 18446744073709551616) (hl : lo < 18446744073709551616) (he0 : -1000000000000 ≤ e) (he1 : e ≤ 1000000000000) (hK : K ≤ 1000000000000) (h0 : (hi * 18446744073709551616 + lo) % 2 ^ K = 0) (w : World) :
    Calls Tryz.prog 138 #[.agg #[.int .u64 (hi : Int), .int .u64 (lo : Int), .int .i64 e, .bool false], .int .i64 kI] w fun r w' => ∃ H L : Nat, r = .returned (.agg #[.int .u64 (H : Int), .int .u64 (L : Int), .int .i64 (e + kI), .bool false]) ∧
      H * 18446744073709551616 + L = (hi * 18446744073709551616 + lo) / 2 ^ K ∧ L < 18446744073709551616 ∧ Ext w w' := by
  subst hk
  refine (fdown_any hi lo K e false hh hl he0 he1 hK w).mono fun r w' ⟨H, L, hr, hv, _, hL, hE⟩ => ⟨H, L, ?_, hv, hL, hE⟩
  rw [hr, h0]
  rfl

set_option maxRecDepth 100000 in
set_option maxHeartbeats 4000000 in
theorem frootF_any {N : Nat} {e : Int} (hN0 : N ≠ 0) (hN1 : N < 9007199254740992) (he0 : -100000 ≤ e) (he1 : e ≤ 100000) (w : World) :
    Calls Tryz.prog 79 #[.agg #[.int .u64 0, .int .u64 (N : Int), .int .i64 e, .bool false]] w fun x w' => ∃ r E s hi lo, x = .returned (.agg #[.int .u64 0, .int .u64 ((r : Nat) : Int), .int .i64 E, .bool (!decide (r * r = N * 2 ^ s))]) ∧ RootOf N e (N * 2 ^ s) hi lo r E s ∧ 64 ≤ s ∧ s ≤ 127 ∧ Ext w w' := by
  have CN := Lib.hid (fun w => fnormal_any 0 N e false (by omega) (by omega) (by omega) (by omega) (by omega) w)
  have CW := Lib.hid (fun (hi lo r : Nat) (E : Int) (s M : Nat) (R : RootOf N e M hi lo r E s) w => wordRoot_any (hi := hi) (lo := lo) (s := r) R.hlo R.hi0 R.hi1 (by rw [R.words]; exact R.r0) (by rw [R.words]; exact R.r1) R.r2 R.r3 w)
  go_enter Tryz.func79, Tryz.ntmps79
  go_upto_region 1 with fail
  obtain ⟨W, hW, hB, hx, hr, hz⟩ := boxes_nn w 0 (N : Int) e false 0 0 0 false
  rw [← hW]
  clear hW
  generalize hBe : w.heap.size = B at *
  have HBe := Lib.hid hBe
  clear hBe
  have c0 := hx.c0
  have c1 := hx.c1
  have c2 := hx.c2
  have c3 := hx.c3
  go_wp2_with fail
  refine (CN.out _).mono ?_
  rintro x w1 ⟨H, L, k, rfl, hv, hH0, hH1, hL, hk, hE⟩
  have x1 := hx.below hE
  have r1 := hr.below hE
  have b1 : Below B w w1 := hB.trans (Below.mono hE (by omega))
  clear c0 c1 c2 c3 hx hr hB hE CN hz
  have c0 := x1.c0
  have c1 := x1.c1
  have c2 := x1.c2
  have c3 := x1.c3
  have g0 := x1.f 0
  have g1 := x1.f 1
  have g2 := x1.f 2
  have g3 := x1.f 3
  have hv' : H * 18446744073709551616 + L = N * 2 ^ k := by rw [hv, Nat.zero_mul, Nat.zero_add]
  have hk64 : 74 ≤ k := by
    rcases Nat.lt_or_ge k 74 with h | h
    · exfalso
      have h2 : 2 ^ k ≤ 2 ^ 73 := Nat.pow_le_pow_right (by omega) (by omega)
      have h3 : N * 2 ^ k ≤ N * 2 ^ 73 := Nat.mul_le_mul_left _ h2
      omega
    · exact h
  obtain ⟨e2, he2⟩ : ∃ e2 : Int, e - (k : Int) = e2 := ⟨_, rfl⟩
  have hb2 : -100127 ≤ e2 ∧ e2 ≤ 100000 := by omega
  obtain ⟨hb20, hb21⟩ := hb2
  have HV := Lib.hid hv'
  have HE2 := Lib.hid he2
  clear hv hv'
  go_upto_region 2 with fail
  clear he2
  have x2 := x1.stored (H : Int) (L : Int) e2 false
  have ho := only_nset4 w1 B (.int .u64 (H : Int)) (.int .u64 (L : Int)) (.int .i64 e2) (.bool false)
  have r2 := r1.only ho (by omega)
  have b2 := b1.trans (ho.below (B := B) (Nat.le_refl _))
  generalize (((w1.setCell ⟨B, 0, none⟩ (.int .u64 (H : Int))).setCell ⟨B, 1, none⟩ (.int .u64 (L : Int))).setCell ⟨B, 2, none⟩ (.int .i64 e2)).setCell ⟨B, 3, none⟩ (.bool false) = W2 at *
  clear c0 c1 c2 c3 g0 g1 g2 g3 x1 r1 b1 ho
  have c0 := x2.c0
  have c1 := x2.c1
  have c2 := x2.c2
  have c3 := x2.c3
  have hband := and_one_i64 e2
  rcases Int.emod_two_eq e2 with hp | hp
  · rw [hp] at hband
    have hpar : (e - k + (2 : Nat)) % 2 = 0 := by rw [HE2.out]; omega
    have hmod : (H * 18446744073709551616 + L) % 2 ^ 2 = 0 := by
      rw [HV.out]
      obtain ⟨s, hs⟩ : ∃ s, k = s + 2 := ⟨k - 2, by omega⟩
      rw [hs, Nat.pow_add, ← Nat.mul_assoc]
      exact Nat.mul_mod_left _ _
    have CD := Lib.hid (fun w => fdown_exact (hi := H) (lo := L) (K := 2) (e := e2) (kI := 2) rfl hH1 hL (by omega) (by omega) (by omega) hmod w)
    clear hmod hp
    go_wp2_with fail
    refine (CD.out _).mono ?_
    rintro x w3 ⟨H2, L2, rfl, hv2, hL2, hE⟩
    have x3 := x2.below hE
    have r3 := r2.below hE
    have hsz := x2.lt
    have b3 : Below B w w3 := b2.trans (Below.mono hE (by omega))
    clear c0 c1 c2 c3 x2 r2 b2 hE hsz hband
    have c0 := x3.c0
    have c1 := x3.c1
    have c2 := x3.c2
    have c3 := x3.c3
    have g0 := x3.f 0
    have g1 := x3.f 1
    have g2 := x3.f 2
    have g3 := x3.f 3
    have hvk := HV.out
    obtain ⟨r, E, RO, hE3, -⟩ := root_of (N := N) (k := k) (d := 2) (e := e) (by omega) (by omega) (by rw [← hvk]; omega) (by rw [← hvk]; omega) hpar (by rw [← hvk]; exact hv2) hL2
    rw [HE2.out] at hE3
    obtain ⟨e3, he3⟩ : ∃ e3 : Int, e2 + 2 = e3 := ⟨_, rfl⟩
    have hee : e3 = 2 * E := by rw [← he3, ← hE3]; rfl
    have htd : e3.tdiv 2 = E := by rw [hee]; exact Int.mul_tdiv_cancel_left _ (by omega)
    have htd2 : IntKind.i64.wrap E = E := by rw [IntKind.wrap_i64]; omega
    have hex := exact_word (hi := H2) (lo := L2) (r := r) (by rw [RO.words]; exact RO.r0) (by rw [RO.words]; exact RO.r1) RO.r3 RO.hlo
    rw [RO.words] at hex
    have hxx : (IntKind.u64.wrap ((r : Int) * (r : Int)) == (L2 : Int)) = decide (r * r = N * 2 ^ (k - 2)) := by
      rw [Bool.eq_iff_iff, beq_iff_eq, decide_eq_true_iff, ← hex, IntKind.wrap_u64, ← Int.natCast_mul]
      omega
    have RO := Lib.hid RO
    obtain ⟨ex, hexl⟩ : ∃ ex, decide (r * r = N * 2 ^ (k - 2)) = ex := ⟨_, rfl⟩
    rw [hexl] at hxx
    have HEX := Lib.hid hexl
    clear hv2 hex hexl hE3 hvk hpar hee
    go_upto_region 3 with fail
    have x4 := x3.stored (H2 : Int) (L2 : Int) e3 false
    have ho := only_nset4 w3 B (.int .u64 (H2 : Int)) (.int .u64 (L2 : Int)) (.int .i64 e3) (.bool false)
    have r4 := r3.only ho (by omega)
    have b4 := b3.trans (ho.below (B := B) (Nat.le_refl _))
    generalize (((w3.setCell ⟨B, 0, none⟩ (.int .u64 (H2 : Int))).setCell ⟨B, 1, none⟩ (.int .u64 (L2 : Int))).setCell ⟨B, 2, none⟩ (.int .i64 e3)).setCell ⟨B, 3, none⟩ (.bool false) = W4 at *
    clear c0 c1 c2 c3 g0 g1 g2 g3 x3 r3 b3 ho
    have c0 := x4.c0
    have c1 := x4.c1
    have c2 := x4.c2
    have c3 := x4.c3
    have q0 := r4.c0
    have q1 := r4.c1
    have q2 := r4.c2
    have q3 := r4.c3
    have p0 := r4.f 0
    have p1 := r4.f 1
    have p2 := r4.f 2
    have p3 := r4.f 3
    have z := r4.stored 0 (r : Int) E (!ex)
    have z0 := z.c0
    have z1 := z.c1
    have z2 := z.c2
    have z3 := z.c3
    have B4 := Lib.hid (b4.trans ((only_nset4 W4 (B + 1) (.int .u64 0) (.int .u64 (r : Int)) (.int .i64 E) (.bool (!ex))).below (B := B) (by omega)))
    clear z x4 r4 b4
    go_wp2_with fail
    refine (CW.out H2 L2 r E _ _ RO.out _).mono ?_
    rintro x w5 ⟨rfl, rfl⟩
    go_wp2
    refine bodyPost_ret (v := .agg #[.int .u64 0, .int .u64 (r : Int), .int .i64 E, .bool (!ex)]) (by simp [results, Tryz.results79, go_sem, z0, z1, z2, z3]) rfl ?_
    refine ⟨r, E, k - 2, H2, L2, by rw [HEX.out], RO.out, by omega, by omega, ?_⟩
    show Below _ _ _
    rw [HBe.out]
    exact B4.out
  · rw [hp] at hband
    have hpar : (e - k + (3 : Nat)) % 2 = 0 := by rw [HE2.out]; omega
    have hmod : (H * 18446744073709551616 + L) % 2 ^ 3 = 0 := by
      rw [HV.out]
      obtain ⟨s, hs⟩ : ∃ s, k = s + 3 := ⟨k - 3, by omega⟩
      rw [hs, Nat.pow_add, ← Nat.mul_assoc]
      exact Nat.mul_mod_left _ _
    have CD := Lib.hid (fun w => fdown_exact (hi := H) (lo := L) (K := 3) (e := e2) (kI := 3) rfl hH1 hL (by omega) (by omega) (by omega) hmod w)
    clear hmod hp
    go_wp2_with fail
    refine (CD.out _).mono ?_
    rintro x w3 ⟨H2, L2, rfl, hv2, hL2, hE⟩
    have x3 := x2.below hE
    have r3 := r2.below hE
    have hsz := x2.lt
    have b3 : Below B w w3 := b2.trans (Below.mono hE (by omega))
    clear c0 c1 c2 c3 x2 r2 b2 hE hsz hband
    have c0 := x3.c0
    have c1 := x3.c1
    have c2 := x3.c2
    have c3 := x3.c3
    have g0 := x3.f 0
    have g1 := x3.f 1
    have g2 := x3.f 2
    have g3 := x3.f 3
    have hvk := HV.out
    obtain ⟨r, E, RO, hE3, -⟩ := root_of (N := N) (k := k) (d := 3) (e := e) (by omega) (by omega) (by rw [← hvk]; omega) (by rw [← hvk]; omega) hpar (by rw [← hvk]; exact hv2) hL2
    rw [HE2.out] at hE3
    obtain ⟨e3, he3⟩ : ∃ e3 : Int, e2 + 3 = e3 := ⟨_, rfl⟩
    have hee : e3 = 2 * E := by rw [← he3, ← hE3]; rfl
    have htd : e3.tdiv 2 = E := by rw [hee]; exact Int.mul_tdiv_cancel_left _ (by omega)
    have htd2 : IntKind.i64.wrap E = E := by rw [IntKind.wrap_i64]; omega
    have hex := exact_word (hi := H2) (lo := L2) (r := r) (by rw [RO.words]; exact RO.r0) (by rw [RO.words]; exact RO.r1) RO.r3 RO.hlo
    rw [RO.words] at hex
    have hxx : (IntKind.u64.wrap ((r : Int) * (r : Int)) == (L2 : Int)) = decide (r * r = N * 2 ^ (k - 3)) := by
      rw [Bool.eq_iff_iff, beq_iff_eq, decide_eq_true_iff, ← hex, IntKind.wrap_u64, ← Int.natCast_mul]
      omega
    have RO := Lib.hid RO
    obtain ⟨ex, hexl⟩ : ∃ ex, decide (r * r = N * 2 ^ (k - 3)) = ex := ⟨_, rfl⟩
    rw [hexl] at hxx
    have HEX := Lib.hid hexl
    clear hv2 hex hexl hE3 hvk hpar hee
    go_upto_region 3 with fail
    have x4 := x3.stored (H2 : Int) (L2 : Int) e3 false
    have ho := only_nset4 w3 B (.int .u64 (H2 : Int)) (.int .u64 (L2 : Int)) (.int .i64 e3) (.bool false)
    have r4 := r3.only ho (by omega)
    have b4 := b3.trans (ho.below (B := B) (Nat.le_refl _))
    generalize (((w3.setCell ⟨B, 0, none⟩ (.int .u64 (H2 : Int))).setCell ⟨B, 1, none⟩ (.int .u64 (L2 : Int))).setCell ⟨B, 2, none⟩ (.int .i64 e3)).setCell ⟨B, 3, none⟩ (.bool false) = W4 at *
    clear c0 c1 c2 c3 g0 g1 g2 g3 x3 r3 b3 ho
    have c0 := x4.c0
    have c1 := x4.c1
    have c2 := x4.c2
    have c3 := x4.c3
    have q0 := r4.c0
    have q1 := r4.c1
    have q2 := r4.c2
    have q3 := r4.c3
    have p0 := r4.f 0
    have p1 := r4.f 1
    have p2 := r4.f 2
    have p3 := r4.f 3
    have z := r4.stored 0 (r : Int) E (!ex)
    have z0 := z.c0
    have z1 := z.c1
    have z2 := z.c2
    have z3 := z.c3
    have B4 := Lib.hid (b4.trans ((only_nset4 W4 (B + 1) (.int .u64 0) (.int .u64 (r : Int)) (.int .i64 E) (.bool (!ex))).below (B := B) (by omega)))
    clear z x4 r4 b4
    go_wp2_with fail
    refine (CW.out H2 L2 r E _ _ RO.out _).mono ?_
    rintro x w5 ⟨rfl, rfl⟩
    go_wp2
    refine bodyPost_ret (v := .agg #[.int .u64 0, .int .u64 (r : Int), .int .i64 E, .bool (!ex)]) (by simp [results, Tryz.results79, go_sem, z0, z1, z2, z3]) rfl ?_
    refine ⟨r, E, k - 3, H2, L2, by rw [HEX.out], RO.out, by omega, by omega, ?_⟩
    show Below _ _ _
    rw [HBe.out]
    exact B4.out
end Go.Proofs.YtolghagbpnjpgaaGreatDoor

namespace Go.Proofs.YtolghagbpnjpgaaGreatDoor

theorem sq_nonneg (x : Int) : 0 ≤ x * x := by
  rcases Int.le_total 0 x with h | h
  · exact Int.mul_nonneg h h
  · exact Int.mul_nonneg_of_nonpos_of_nonpos h h

theorem sq_sub (a b : Int) : (a - b) * (a - b) = a * a - 2 * (a * b) + b * b := by
  rw [Int.sub_mul, Int.mul_sub, Int.mul_sub, Int.mul_comm b a]; omega
theorem sq_add (a b : Int) : (a + b) * (a + b) = a * a + 2 * (a * b) + b * b := by
  rw [Int.add_mul, Int.mul_add, Int.mul_add, Int.mul_comm b a]; omega
end Go.Proofs.YtolghagbpnjpgaaGreatDoor

namespace Go.Proofs.YtolghagbpnjpgaaGreatDoor
open Go.RowKit

theorem blen_spec {a : Nat} (h : a ≠ 0) : ∃ l, blen a = l + 1 ∧ 2 ^ l ≤ a ∧ a < 2 ^ (l + 1) := by
  refine ⟨Nat.log2 a, by unfold blen; rw [if_neg h], Nat.log2_self_le h, Nat.lt_log2_self⟩

theorem blen_limbs {a e : Nat} (h : a < 4294967296 ^ e) : blen a ≤ 32 * e := by
  rw [show 4294967296 ^ e = 2 ^ (32 * e) by rw [Nat.pow_mul]] at h
  by_cases h0 : a = 0
  · unfold blen; rw [if_pos h0]; omega
  · have h1 : blen a = Nat.log2 a + 1 := by unfold blen; rw [if_neg h0]
    have h2 := (Nat.log2_lt h0).2 h
    omega

theorem pow_limbs {k e : Nat} (h : k ≤ 32 * e) : 2 ^ k ≤ 4294967296 ^ e := by
  rw [show 4294967296 ^ e = 2 ^ (32 * e) by rw [Nat.pow_mul]]
  exact Nat.pow_le_pow_right (by omega) h

end Go.Proofs.YtolghagbpnjpgaaGreatDoor

namespace Go.Proofs.YtolghagbpnjpgaaGreatDoor

/-- how often 2 divides a, 0 for zero -/
def tzf (a : Nat) : Nat := if h : a = 0 ∨ a % 2 = 1 then 0 else tzf (a / 2) + 1
termination_by a
decreasing_by omega

theorem tzf_isTz (a : Nat) : IsTz a (tzf a) := by
  induction a using Nat.strongRecOn with
  | _ a ih =>
    rw [tzf]
    by_cases h0 : a = 0
    · rw [dif_pos (Or.inl h0)]; exact Or.inl ⟨h0, rfl⟩
    · by_cases h1 : a % 2 = 1
      · rw [dif_pos (Or.inr h1)]; exact Or.inr ⟨h0, a / 2, by rw [Nat.pow_zero]; omega⟩
      · rw [dif_neg (by omega)]
        rcases ih (a / 2) (by omega) with ⟨h2, _⟩ | ⟨_, m, hm⟩
        · omega
        · refine Or.inr ⟨h0, m, ?_⟩
          rw [Nat.pow_succ, Nat.mul_assoc, Nat.mul_left_comm, ← hm]; omega

theorem tzf_of {a t : Nat} (h : IsTz a t) : t = tzf a := h.unique (tzf_isTz a)
theorem tzf_zero : tzf 0 = 0 := by rw [tzf]; simp
theorem tzf_odd {a : Nat} (h : a % 2 = 1) : tzf a = 0 := by rw [tzf]; simp [h]
theorem tzf_mul {a : Nat} (h : a ≠ 0) (k : Nat) : tzf (a * 2 ^ k) = tzf a + k := ((tzf_of ((tzf_isTz a).mul h k))).symm

theorem two_pos (k : Nat) : (0 : Int) < 2 ^ k := Int.pow_pos (by omega)
theorem natAbs_shift (x : Int) (k : Nat) : (x * 2 ^ k).natAbs = x.natAbs * 2 ^ k := by rw [Int.natAbs_mul, Int.natAbs_pow]; rfl
theorem mul_two_ne {x : Int} (h : x ≠ 0) (k : Nat) : x * 2 ^ k ≠ 0 := Int.mul_ne_zero h (Int.ne_of_gt (two_pos k))

/-- the odd part -/
theorem odd_part {x : Int} (h : x ≠ 0) : ∃ m, x = m * 2 ^ tzf x.natAbs ∧ m.natAbs % 2 = 1 ∧ x / 2 ^ tzf x.natAbs = m := by
  rcases tzf_isTz x.natAbs with ⟨h0, _⟩ | ⟨_, q, hq⟩
  · omega
  · generalize tzf x.natAbs = t at *
    have hp := two_pos t
    rcases Int.lt_or_gt_of_ne h with hx | hx
    · have e : x = (-(2 * (q : Int) + 1)) * 2 ^ t := by
        have : x = -(x.natAbs : Int) := by omega
        rw [this, hq]; push_cast; rw [Int.neg_mul, Int.mul_comm]
      exact ⟨_, e, by omega, by rw [e, Int.mul_ediv_cancel _ (Int.ne_of_gt hp)]⟩
    · have e : x = (2 * (q : Int) + 1) * 2 ^ t := by
        have : x = (x.natAbs : Int) := by omega
        rw [this, hq]; push_cast; rw [Int.mul_comm]
      exact ⟨_, e, by omega, by rw [e, Int.mul_ediv_cancel _ (Int.ne_of_gt hp)]⟩

/-- a dyad: none if it is not representable, otherwise the odd integer and the exponent (or two zeros) -/
abbrev Dy := Option (Int × Int)

/-- x times 2 to the power e, normalized -/
def dmk (x e : Int) : Dy :=
  if x = 0 then some (0, 0) else
  if e < -65536 - (tzf x.natAbs : Int) ∨ 65536 - (blen x.natAbs : Int) < e then none else some (x / 2 ^ tzf x.natAbs, e + tzf x.natAbs)

theorem dmk_zero (e : Int) : dmk 0 e = some (0, 0) := by simp [dmk]
theorem dmk_shift (x e : Int) (k : Nat) : dmk (x * 2 ^ k) e = dmk x (e + k) := by
  by_cases h : x = 0
  · subst h; simp [dmk]
  · have hn : x.natAbs ≠ 0 := by omega
    unfold dmk
    rw [if_neg h, if_neg (mul_two_ne h k), natAbs_shift, tzf_mul hn, blen_mul hn]
    have e1 : x * 2 ^ k / 2 ^ (tzf x.natAbs + k) = x / 2 ^ tzf x.natAbs := by
      rw [Int.pow_add, Int.mul_ediv_mul_of_pos_left _ _ (two_pos k)]
    rw [e1]
    by_cases hc : e < -65536 - ((tzf x.natAbs + k : Nat) : Int) ∨ 65536 - ((blen x.natAbs + k : Nat) : Int) < e
    · rw [if_pos hc, if_pos (by omega)]
    · rw [if_neg hc, if_neg (by omega)]
      congr 2; omega

/-- in normalized form -/
def Nd : Dy → Prop
  | none => True
  | some (m, e) => (m = 0 ∧ e = 0) ∨ (m.natAbs % 2 = 1 ∧ -65536 ≤ e ∧ e + blen m.natAbs ≤ 65536)

theorem dmk_nd (x e : Int) : Nd (dmk x e) := by
  unfold dmk
  by_cases h : x = 0
  · rw [if_pos h]; exact Or.inl ⟨rfl, rfl⟩
  · rw [if_neg h]
    split
    · trivial
    · rename_i hc
      obtain ⟨m, h1, h2, h3⟩ := odd_part h
      refine Or.inr ?_
      rw [h3]
      have hb : blen x.natAbs = blen m.natAbs + tzf x.natAbs := by
        conv => lhs; rw [h1]
        rw [natAbs_shift, blen_mul (by omega)]
      refine ⟨h2, by omega, by omega⟩

theorem dmk_norm {m e : Int} (h : Nd (some (m, e))) : dmk m e = some (m, e) := by
  rcases h with ⟨rfl, rfl⟩ | ⟨h1, h2, h3⟩
  · exact dmk_zero 0
  · unfold dmk
    rw [if_neg (by omega), tzf_odd h1, if_neg (by omega)]
    simp

/-- the integer in units of 2^-65536; not for none -/
def sc : Dy → Int
  | none => 0
  | some (m, e) => m * 2 ^ (e + 65536).toNat

/-- the sum, the product, the opposite -/
def dadd : Dy → Dy → Dy
  | some p, some q => dmk (sc (some p) + sc (some q)) (-65536)
  | _, _ => none
def dmul : Dy → Dy → Dy
  | some p, some q => dmk (p.1 * q.1) (p.2 + q.2)
  | _, _ => none
def dneg : Dy → Dy
  | some p => some (-p.1, p.2)
  | none => none
theorem dneg_nd {d : Dy} (h : Nd d) : Nd (dneg d) := by
  cases d with
  | none => trivial
  | some p =>
    rcases h with ⟨h1, h2⟩ | ⟨h1, h2, h3⟩
    · exact Or.inl ⟨by simp [h1], h2⟩
    · exact Or.inr ⟨by simpa using h1, h2, by simpa using h3⟩
/-- d is valid, and N in units of 2^-S -/
def Is (d : Dy) (S : Nat) (N : Int) : Prop := ∃ m e, d = some (m, e) ∧ Nd d ∧ 0 ≤ e + S ∧ N = m * 2 ^ (e + S).toNat

theorem Is.nd {d : Dy} {S : Nat} {N : Int} (h : Is d S N) : Nd d := by obtain ⟨_, _, _, h, _⟩ := h; exact h
theorem Is.mk {d : Dy} {S : Nat} {N : Int} (h : Is d S N) : d = dmk N (-S) := by
  obtain ⟨m, e, rfl, h1, h2, rfl⟩ := h
  rw [dmk_shift, show (-(S : Int)) + (e + S).toNat = e by omega, dmk_norm h1]
theorem Is.unique {d d' : Dy} {S : Nat} {N : Int} (h : Is d S N) (h' : Is d' S N) : d = d' := by rw [h.mk, h'.mk]
theorem Is.up {d : Dy} {S : Nat} {N : Int} (h : Is d S N) (k : Nat) : Is d (S + k) (N * 2 ^ k) := by
  obtain ⟨m, e, h0, h1, h2, rfl⟩ := h
  refine ⟨m, e, h0, h1, by omega, ?_⟩
  rw [show (e + ((S + k : Nat) : Int)).toNat = (e + S).toNat + k by omega, Int.pow_add, Int.mul_assoc]

theorem blen_le_of_lt {a k : Nat} (h : a < 2 ^ k) : blen a ≤ k := by
  by_cases h0 : a = 0
  · subst h0; simp [blen]
  · obtain ⟨l, h1, h2, _⟩ := blen_spec h0
    rw [h1]
    have : 2 ^ l < 2 ^ k := by omega
    exact (Nat.pow_lt_pow_iff_right (by omega)).1 this

/-- what is far from the limits is representable -/
theorem Is.of_dmk {N : Int} {S B : Nat} (hS : S ≤ 65536) (hN : N.natAbs < 2 ^ B) (hB : B ≤ 65536) : Is (dmk N (-S)) S N := by
  by_cases h : N = 0
  · subst h; rw [dmk_zero]; exact ⟨0, 0, rfl, Or.inl ⟨rfl, rfl⟩, by omega, by simp⟩
  · have hb := blen_le_of_lt hN
    have hnd := dmk_nd N (-S)
    obtain ⟨m, h1, h2, h3⟩ := odd_part h
    have e : dmk N (-(S : Int)) = some (m, -(S : Int) + (tzf N.natAbs : Int)) := by
      unfold dmk
      rw [if_neg h, if_neg (by omega), h3]
    rw [e] at hnd ⊢
    refine ⟨_, _, rfl, hnd, by omega, ?_⟩
    rw [show (-(S : Int) + (tzf N.natAbs : Int) + S).toNat = tzf N.natAbs by omega]
    exact h1

theorem sc_is {d : Dy} {S : Nat} {N : Int} (h : Is d S N) (hS : S ≤ 65536) : sc d = N * 2 ^ (65536 - S) := by
  obtain ⟨m, e, rfl, h1, h2, rfl⟩ := h
  unfold sc
  simp only
  rw [show (e + 65536).toNat = (e + S).toNat + (65536 - S) by omega, Int.pow_add, Int.mul_assoc]

theorem Is.add {d d' : Dy} {S : Nat} {N M : Int} (h : Is d S N) (h' : Is d' S M) (hS : S ≤ 65536) {B : Nat} (hb : (N + M).natAbs < 2 ^ B) (hB : B ≤ 65536) : Is (dadd d d') S (N + M) := by
  have e : dadd d d' = dmk (N + M) (-S) := by
    have a := sc_is h hS
    have b := sc_is h' hS
    obtain ⟨m, x, rfl, _⟩ := h
    obtain ⟨n, y, rfl, _⟩ := h'
    show dmk (sc _ + sc _) _ = _
    rw [a, b, ← Int.add_mul, dmk_shift]
    congr 1; omega
  rw [e]
  exact Is.of_dmk hS hb hB

theorem Is.neg {d : Dy} {S : Nat} {N : Int} (h : Is d S N) : Is (dneg d) S (-N) := by
  have hd := dneg_nd h.nd
  obtain ⟨m, e, rfl, h1, h2, rfl⟩ := h
  exact ⟨-m, e, rfl, hd, h2, by rw [Int.neg_mul]⟩
theorem Is.mul {d d' : Dy} {S T : Nat} {N M : Int} (h : Is d S N) (h' : Is d' T M) (hS : S + T ≤ 65536) {B : Nat} (hb : (N * M).natAbs < 2 ^ B) (hB : B ≤ 65536) : Is (dmul d d') (S + T) (N * M) := by
  have e : dmul d d' = dmk (N * M) (-((S + T : Nat) : Int)) := by
    obtain ⟨m, x, rfl, _, h2, rfl⟩ := h
    obtain ⟨n, y, rfl, _, h2', rfl⟩ := h'
    show dmk (m * n) (x + y) = _
    have : m * 2 ^ (x + S).toNat * (n * 2 ^ (y + T).toNat) = m * n * 2 ^ ((x + S).toNat + (y + T).toNat) := by
      rw [Int.pow_add, Int.mul_assoc, Int.mul_left_comm (2 ^ (x + S).toNat), ← Int.mul_assoc]
    rw [this, dmk_shift]
    congr 1; omega
  rw [e]
  exact Is.of_dmk hS hb hB

theorem Is.zero {d : Dy} {S : Nat} {N : Int} (h : Is d S N) : (∃ m e, d = some (m, e) ∧ (m = 0 ↔ N = 0) ∧ (m < 0 ↔ N < 0)) := by
  obtain ⟨m, e, rfl, h1, h2, rfl⟩ := h
  have hp := two_pos (e + S).toNat
  refine ⟨m, e, rfl, ⟨fun h => by rw [h, Int.zero_mul], fun h => ?_⟩, ⟨fun h => Int.mul_neg_of_neg_of_pos h hp, fun h => ?_⟩⟩
  · rcases Int.mul_eq_zero.1 h with h | h <;> omega
  · rcases Int.lt_or_le m 0 with h3 | h3
    · exact h3
    · have := Int.mul_nonneg h3 (Int.le_of_lt hp); omega
end Go.Proofs.YtolghagbpnjpgaaGreatDoor
