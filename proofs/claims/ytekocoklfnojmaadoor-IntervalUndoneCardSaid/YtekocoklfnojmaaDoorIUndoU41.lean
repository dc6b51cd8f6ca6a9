import Derived.Test.YtekocoklfnojmaaDoorIUndoU36
import Derived.Test.YtekocoklfnojmaaDoorIUndoU27
import Derived.Test.YtekocoklfnojmaaDoorIUndoU10
import Derived.Test.YtekocoklfnojmaaDoorIUndoU12
namespace Go.Proofs.YtekocoklfnojmaaDoor
open Go.RowKit

theorem and_one_i64 (e : Int) : bits BinOp.and IntKind.i64 e 1 = e % 2 := by
  have h1 : (BitVec.ofInt 64 e).toNat = (e % 18446744073709551616).toNat := by
    rw [BitVec.toNat_ofInt]; rfl
  have h2 : (BitVec.ofInt 64 (1 : Int)).toNat = 1 := by decide
  show IntKind.i64.wrap ((BitVec.ofInt 64 e &&& BitVec.ofInt 64 1).toNat : Int) = _
  rw [BitVec.toNat_and, h1, h2, Nat.and_one_is_mod, IntKind.wrap_i64]
  omega

theorem isqrt_ex (N : Nat) : ∃ s, s * s ≤ N ∧ N < (s + 1) * (s + 1) := by
  induction N with
  | zero => exact ⟨0, by omega, by omega⟩
  | succ n ih =>
    obtain ⟨s, h1, h2⟩ := ih
    by_cases h : n + 1 < (s + 1) * (s + 1)
    · exact ⟨s, by omega, h⟩
    · refine ⟨s + 1, by omega, ?_⟩
      have e : (s + 1 + 1) * (s + 1 + 1) = (s + 1) * (s + 1) + 2 * (s + 1) + 1 := by rw [Nat.add_mul (s + 1) 1, Nat.mul_add (s + 1) (s + 1) 1]; omega
      omega
theorem isqrt_bounds {N s a b : Nat} (h1 : s * s ≤ N) (h2 : N < (s + 1) * (s + 1)) (ha : a * a ≤ N) (hb : N < b * b) : a ≤ s ∧ s < b := by
  constructor
  · rcases Nat.lt_or_ge s a with h | h
    · have := Nat.mul_le_mul (show s + 1 ≤ a from h) (show s + 1 ≤ a from h)
      omega
    · exact h
  · rcases Nat.lt_or_ge s b with h | h
    · exact h
    · have := Nat.mul_le_mul h h
      omega

/-- a root's number: what is under it, and where -/
structure RootOf (N : Nat) (e : Int) (M hi lo r : Nat) (E : Int) (s : Nat) : Prop where
  val : M = N * 2 ^ s
  exp : 2 * E + s = e
  words : hi * 18446744073709551616 + lo = M
  hlo : lo < 18446744073709551616
  hi0 : 1152921504606846976 ≤ hi
  hi1 : hi < 4611686018427387904
  r0 : r * r ≤ M
  r1 : M < (r + 1) * (r + 1)
  r2 : 4611686018427387904 ≤ r
  r3 : r < 9223372036854775808

theorem root_of {N k d : Nat} {e : Int} (hk : 64 ≤ k) (hd : d = 2 ∨ d = 3) (h0 : 2 ^ 127 ≤ N * 2 ^ k) (h1 : N * 2 ^ k < 2 ^ 128) (hpar : (e - k + d) % 2 = 0) {H L : Nat} (hw : H * 18446744073709551616 + L = N * 2 ^ k / 2 ^ d) (hL : L < 18446744073709551616) :
    ∃ r E, RootOf N e (N * 2 ^ (k - d)) H L r E (k - d) ∧ e - k + d = 2 * E ∧ N * 2 ^ k % 2 ^ d = 0 := by
  obtain ⟨s, hs⟩ : ∃ s, k = s + d := ⟨k - d, by rcases hd with rfl | rfl <;> omega⟩
  subst hs
  have hp : 0 < 2 ^ d := Nat.pow_pos (by omega)
  have e1 : N * 2 ^ (s + d) = N * 2 ^ s * 2 ^ d := by rw [Nat.pow_add, Nat.mul_assoc]
  rw [e1, Nat.mul_div_cancel _ hp] at hw
  rw [e1] at h0 h1
  rw [e1, Nat.mul_mod_left, Nat.add_sub_cancel]
  have hM0 : 2 ^ 124 ≤ N * 2 ^ s := by
    rcases hd with rfl | rfl <;> omega
  have hM1 : N * 2 ^ s < 2 ^ 126 := by
    rcases hd with rfl | rfl <;> omega
  generalize hM : N * 2 ^ s = M at *
  obtain ⟨r, r1, r2⟩ := isqrt_ex M
  obtain ⟨b1, b2⟩ := isqrt_bounds (a := 4611686018427387904) (b := 9223372036854775808) r1 r2 (by omega) (by omega)
  obtain ⟨E, hE⟩ : ∃ E, e - ((s + d : Nat) : Int) + d = 2 * E := ⟨(e - ((s + d : Nat) : Int) + d) / 2, by omega⟩
  refine ⟨r, E, ⟨hM.symm, by push_cast at hE; omega, hw, hL, by omega, by omega, r1, r2, b1, b2⟩, hE, rfl⟩

theorem div_at {hi lo r : Nat} (hl : lo < 18446744073709551616) (h0 : hi ≠ 0) (h1 : hi < 4611686018427387904) (hr : 4611686018427387904 ≤ r) (hr2 : r ≤ 9223372036854775808) (w : World) :
    Calls Tryd.prog 80 #[.int .u64 (hi : Int), .int .u64 (lo : Int), .int .u64 (r : Int)] w fun e w' => e = .returned (.tuple #[.int .u64 (((hi * 18446744073709551616 + lo) / r : Nat) : Int), .int .u64 (((hi * 18446744073709551616 + lo) % r : Nat) : Int)]) ∧ w = w' := by
  by_cases h : r = 9223372036854775808
  · exact div64_any hi lo r 0 (by omega) h0 hl (by rw [h]; decide) (by rw [h]; decide) (by omega) w
  · exact div64_any hi lo r 1 (by omega) h0 hl (show 2 ^ 62 ≤ r from hr) (show r < 2 ^ 63 by omega) (by omega) w

set_option maxRecDepth 100000 in
set_option maxHeartbeats 2000000 in
theorem wordRoot_any {hi lo s : Nat} (hl : lo < 18446744073709551616) (h0 : 1152921504606846976 ≤ hi) (h1 : hi < 4611686018427387904) (r1 : s * s ≤ hi * 18446744073709551616 + lo) (r2 : hi * 18446744073709551616 + lo < (s + 1) * (s + 1)) (b1 : 4611686018427387904 ≤ s) (b2 : s < 9223372036854775808) (w : World) :
    Calls Tryd.prog 82 #[.int .u64 (hi : Int), .int .u64 (lo : Int)] w fun e w' => e = .returned (.int .u64 (s : Int)) ∧ w = w' := by
  have CD := Lib.hid (fun r (hr : s ≤ r) (hr2 : r ≤ 9223372036854775808) w => div_at (hi := hi) (lo := lo) (r := r) hl (by omega) h1 (by omega) hr2 w)
  have NE := Lib.hid (fun r (hs : s ≤ r) (hq : r ≤ (hi * 18446744073709551616 + lo) / r) => newton_end (N := hi * 18446744073709551616 + lo) (r := r) r2 hs (by omega) hq)
  have NS := Lib.hid (fun r (hs : s ≤ r) (hq : (hi * 18446744073709551616 + lo) / r < r) => newton_down (N := hi * 18446744073709551616 + lo) (r := r) r1 hs (by omega) hq)
  clear r1 r2 hl h0 h1
  go_enter Tryd.func82, Tryd.ntmps82
  go_wp2
  go_loopw [5] (fun q wx => ∃ r : Nat, q = .int .u64 (r : Int) ∧ s ≤ r ∧ r ≤ 9223372036854775808 ∧ w = wx) (fun q _ => (intOf q).toNat)
  case atStart => exact ⟨9223372036854775808, rfl, by omega, by omega, rfl⟩
  case round =>
    obtain ⟨r, rfl, h3, h4, rfl⟩ := hrel
    obtain ⟨Q, hQ⟩ : ∃ Q, (hi * 18446744073709551616 + lo) / r = Q := ⟨_, rfl⟩
    have CD1 := CD.out r h3 h4
    have NE1 := NE.out r h3
    have NS1 := NS.out r h3
    rw [hQ] at CD1 NE1 NS1
    have CD1 := Lib.hid CD1
    have NE1 := Lib.hid NE1
    have NS1 := Lib.hid NS1
    clear hQ
    by_cases hq : r ≤ Q
    · have hqi : (r : Int) ≤ (Q : Int) := by omega
      have HE := Lib.hid (NE1.out hq)
      clear hq
      go_wp2_with fail
      refine (CD1.out _).mono ?_
      rintro e w1 ⟨rfl, rfl⟩
      go_wp2
      go_ret
      refine ⟨?_, rfl⟩
      show Ending.returned (.int .u64 (r : Int)) = _
      rw [HE.out]
    · have hqi : ¬ (r : Int) ≤ (Q : Int) := by omega
      obtain ⟨k1, k2⟩ := NS1.out (by omega)
      have hw : IntKind.u64.wrap ((r : Int) + (Q : Int)) = (r : Int) + (Q : Int) := by rw [IntKind.wrap_u64]; omega
      have hd : ((r : Int) + (Q : Int)) / 2 = (((r + Q) / 2 : Nat) : Int) := by omega
      have HD := Lib.hid hd
      clear hd
      generalize (r + Q) / 2 = r' at *
      clear hq
      go_wp2_with fail
      refine (CD1.out _).mono ?_
      rintro e w1 ⟨rfl, rfl⟩
      go_wp2
      go_roundw
      case rel => exact ⟨r', by first | rfl | exact congrArg (Value.int IntKind.u64) HD.out, k1, by omega, by first | rfl | trivial⟩
      case measure => simp [intOf]; omega

theorem fdown_exact {hi lo K : Nat} {e kI : Int} (hk : (K : Int) = kI) (hh : hi < 18446744073709551616) (hl : lo < 18446744073709551616) (he0 : -1000000000000 ≤ e) (he1 : e ≤ 1000000000000) (hK : K ≤ 1000000000000) (h0 : (hi * 18446744073709551616 + lo) % 2 ^ K = 0) (w : World) :
    Calls Tryd.prog 81 #[.agg #[.int .u64 (hi : Int), .int .u64 (lo : Int), .int .i64 e, .bool false], .int .i64 kI] w fun r w' => ∃ H L : Nat, r = .returned (.agg #[.int .u64 (H : Int), .int .u64 (L : Int), .int .i64 (e + kI), .bool false]) ∧
      H * 18446744073709551616 + L = (hi * 18446744073709551616 + lo) / 2 ^ K ∧ L < 18446744073709551616 ∧ Ext w w' := by
  subst hk
  refine (fdown_any hi lo K e false hh hl he0 he1 hK w).mono fun r w' ⟨H, L, hr, hv, _, hL, hE⟩ => ⟨H, L, ?_, hv, hL, hE⟩
  rw [hr, h0]
  rfl

set_option maxRecDepth 100000 in
set_option maxHeartbeats 4000000 in
theorem frootF_any {N : Nat} {e : Int} (hN0 : N ≠ 0) (hN1 : N < 9007199254740992) (he0 : -100000 ≤ e) (he1 : e ≤ 100000) (w : World) :
    Calls Tryd.prog 65 #[.agg #[.int .u64 0, .int .u64 (N : Int), .int .i64 e, .bool false]] w fun x w' => ∃ r E s hi lo, x = .returned (.agg #[.int .u64 0, .int .u64 ((r : Nat) : Int), .int .i64 E, .bool (!decide (r * r = N * 2 ^ s))]) ∧ RootOf N e (N * 2 ^ s) hi lo r E s ∧ 64 ≤ s ∧ s ≤ 127 ∧ Ext w w' := by
  have CN := Lib.hid (fun w => fnormal_any 0 N e false (by omega) (by omega) (by omega) (by omega) (by omega) w)
  have CW := Lib.hid (fun (hi lo r : Nat) (E : Int) (s M : Nat) (R : RootOf N e M hi lo r E s) w => wordRoot_any (hi := hi) (lo := lo) (s := r) R.hlo R.hi0 R.hi1 (by rw [R.words]; exact R.r0) (by rw [R.words]; exact R.r1) R.r2 R.r3 w)
  go_enter Tryd.func65, Tryd.ntmps65
  go_upto_region 1 with fail
  obtain ⟨W, hW, hB, hx, hr, hz⟩ := boxes_nn w 0 (N : Int) e false 0 0 0 false
  rw [← hW]
  clear hW
  generalize hBe : w.heap.size = B at *
  have HBe := Lib.hid hBe
  clear hBe
  have c0 := hx.c0
  have c1 := hx.c1
  have c2 := hx.c2
  have c3 := hx.c3
  go_wp2_with fail
  refine (CN.out _).mono ?_
  rintro x w1 ⟨H, L, k, rfl, hv, hH0, hH1, hL, hk, hE⟩
  have x1 := hx.below hE
  have r1 := hr.below hE
  have b1 : Below B w w1 := hB.trans (Below.mono hE (by omega))
  clear c0 c1 c2 c3 hx hr hB hE CN hz
  have c0 := x1.c0
  have c1 := x1.c1
  have c2 := x1.c2
  have c3 := x1.c3
  have g0 := x1.f 0
  have g1 := x1.f 1
  have g2 := x1.f 2
  have g3 := x1.f 3
  have hv' : H * 18446744073709551616 + L = N * 2 ^ k := by rw [hv, Nat.zero_mul, Nat.zero_add]
  have hk64 : 74 ≤ k := by
    rcases Nat.lt_or_ge k 74 with h | h
    · exfalso
      have h2 : 2 ^ k ≤ 2 ^ 73 := Nat.pow_le_pow_right (by omega) (by omega)
      have h3 : N * 2 ^ k ≤ N * 2 ^ 73 := Nat.mul_le_mul_left _ h2
      omega
    · exact h
  obtain ⟨e2, he2⟩ : ∃ e2 : Int, e - (k : Int) = e2 := ⟨_, rfl⟩
  have hb2 : -100127 ≤ e2 ∧ e2 ≤ 100000 := by omega
  obtain ⟨hb20, hb21⟩ := hb2
  have HV := Lib.hid hv'
  have HE2 := Lib.hid he2
  clear hv hv'
  go_upto_region 2 with fail
  clear he2
  have x2 := x1.stored (H : Int) (L : Int) e2 false
  have ho := only_nset4 w1 B (.int .u64 (H : Int)) (.int .u64 (L : Int)) (.int .i64 e2) (.bool false)
  have r2 := r1.only ho (by omega)
  have b2 := b1.trans (ho.below (B := B) (Nat.le_refl _))
  generalize (((w1.setCell ⟨B, 0, none⟩ (.int .u64 (H : Int))).setCell ⟨B, 1, none⟩ (.int .u64 (L : Int))).setCell ⟨B, 2, none⟩ (.int .i64 e2)).setCell ⟨B, 3, none⟩ (.bool false) = W2 at *
  clear c0 c1 c2 c3 g0 g1 g2 g3 x1 r1 b1 ho
  have c0 := x2.c0
  have c1 := x2.c1
  have c2 := x2.c2
  have c3 := x2.c3
  have hband := and_one_i64 e2
  rcases Int.emod_two_eq e2 with hp | hp
  · rw [hp] at hband
    have hpar : (e - k + (2 : Nat)) % 2 = 0 := by rw [HE2.out]; omega
    have hmod : (H * 18446744073709551616 + L) % 2 ^ 2 = 0 := by
      rw [HV.out]
      obtain ⟨s, hs⟩ : ∃ s, k = s + 2 := ⟨k - 2, by omega⟩
      rw [hs, Nat.pow_add, ← Nat.mul_assoc]
      exact Nat.mul_mod_left _ _
    have CD := Lib.hid (fun w => fdown_exact (hi := H) (lo := L) (K := 2) (e := e2) (kI := 2) rfl hH1 hL (by omega) (by omega) (by omega) hmod w)
    clear hmod hp
    go_wp2_with fail
    refine (CD.out _).mono ?_
    rintro x w3 ⟨H2, L2, rfl, hv2, hL2, hE⟩
    have x3 := x2.below hE
    have r3 := r2.below hE
    have hsz := x2.lt
    have b3 : Below B w w3 := b2.trans (Below.mono hE (by omega))
    clear c0 c1 c2 c3 x2 r2 b2 hE hsz hband
    have c0 := x3.c0
    have c1 := x3.c1
    have c2 := x3.c2
    have c3 := x3.c3
    have g0 := x3.f 0
    have g1 := x3.f 1
    have g2 := x3.f 2
    have g3 := x3.f 3
    have hvk := HV.out
    obtain ⟨r, E, RO, hE3, -⟩ := root_of (N := N) (k := k) (d := 2) (e := e) (by omega) (by omega) (by rw [← hvk]; omega) (by rw [← hvk]; omega) hpar (by rw [← hvk]; exact hv2) hL2
    rw [HE2.out] at hE3
    obtain ⟨e3, he3⟩ : ∃ e3 : Int, e2 + 2 = e3 := ⟨_, rfl⟩
    have hee : e3 = 2 * E := by rw [← he3, ← hE3]; rfl
    have htd : e3.tdiv 2 = E := by rw [hee]; exact Int.mul_tdiv_cancel_left _ (by omega)
    have htd2 : IntKind.i64.wrap E = E := by rw [IntKind.wrap_i64]; omega
    have hex := exact_word (hi := H2) (lo := L2) (r := r) (by rw [RO.words]; exact RO.r0) (by rw [RO.words]; exact RO.r1) RO.r3 RO.hlo
    rw [RO.words] at hex
    have hxx : (IntKind.u64.wrap ((r : Int) * (r : Int)) == (L2 : Int)) = decide (r * r = N * 2 ^ (k - 2)) := by
      rw [Bool.eq_iff_iff, beq_iff_eq, decide_eq_true_iff, ← hex, IntKind.wrap_u64, ← Int.natCast_mul]
      omega
    have RO := Lib.hid RO
    obtain ⟨ex, hexl⟩ : ∃ ex, decide (r * r = N * 2 ^ (k - 2)) = ex := ⟨_, rfl⟩
    rw [hexl] at hxx
    have HEX := Lib.hid hexl
    clear hv2 hex hexl hE3 hvk hpar hee
    go_upto_region 3 with fail
    have x4 := x3.stored (H2 : Int) (L2 : Int) e3 false
    have ho := only_nset4 w3 B (.int .u64 (H2 : Int)) (.int .u64 (L2 : Int)) (.int .i64 e3) (.bool false)
    have r4 := r3.only ho (by omega)
    have b4 := b3.trans (ho.below (B := B) (Nat.le_refl _))
    generalize (((w3.setCell ⟨B, 0, none⟩ (.int .u64 (H2 : Int))).setCell ⟨B, 1, none⟩ (.int .u64 (L2 : Int))).setCell ⟨B, 2, none⟩ (.int .i64 e3)).setCell ⟨B, 3, none⟩ (.bool false) = W4 at *
    clear c0 c1 c2 c3 g0 g1 g2 g3 x3 r3 b3 ho
    have c0 := x4.c0
    have c1 := x4.c1
    have c2 := x4.c2
    have c3 := x4.c3
    have q0 := r4.c0
    have q1 := r4.c1
    have q2 := r4.c2
    have q3 := r4.c3
    have p0 := r4.f 0
    have p1 := r4.f 1
    have p2 := r4.f 2
    have p3 := r4.f 3
    have z := r4.stored 0 (r : Int) E (!ex)
    have z0 := z.c0
    have z1 := z.c1
    have z2 := z.c2
    have z3 := z.c3
    have B4 := Lib.hid (b4.trans ((only_nset4 W4 (B + 1) (.int .u64 0) (.int .u64 (r : Int)) (.int .i64 E) (.bool (!ex))).below (B := B) (by omega)))
    clear z x4 r4 b4
    go_wp2_with fail
    refine (CW.out H2 L2 r E _ _ RO.out _).mono ?_
    rintro x w5 ⟨rfl, rfl⟩
    go_wp2
    refine bodyPost_ret (v := .agg #[.int .u64 0, .int .u64 (r : Int), .int .i64 E, .bool (!ex)]) (by simp [results, Tryd.results65, go_sem, z0, z1, z2, z3]) rfl ?_
    refine ⟨r, E, k - 2, H2, L2, by rw [HEX.out], RO.out, by omega, by omega, ?_⟩
    show Below _ _ _
    rw [HBe.out]
    exact B4.out
  · rw [hp] at hband
    have hpar : (e - k + (3 : Nat)) % 2 = 0 := by rw [HE2.out]; omega
    have hmod : (H * 18446744073709551616 + L) % 2 ^ 3 = 0 := by
      rw [HV.out]
      obtain ⟨s, hs⟩ : ∃ s, k = s + 3 := ⟨k - 3, by omega⟩
      rw [hs, Nat.pow_add, ← Nat.mul_assoc]
      exact Nat.mul_mod_left _ _
    have CD := Lib.hid (fun w => fdown_exact (hi := H) (lo := L) (K := 3) (e := e2) (kI := 3) rfl hH1 hL (by omega) (by omega) (by omega) hmod w)
    clear hmod hp
    go_wp2_with fail
    refine (CD.out _).mono ?_
    rintro x w3 ⟨H2, L2, rfl, hv2, hL2, hE⟩
    have x3 := x2.below hE
    have r3 := r2.below hE
    have hsz := x2.lt
    have b3 : Below B w w3 := b2.trans (Below.mono hE (by omega))
    clear c0 c1 c2 c3 x2 r2 b2 hE hsz hband
    have c0 := x3.c0
    have c1 := x3.c1
    have c2 := x3.c2
    have c3 := x3.c3
    have g0 := x3.f 0
    have g1 := x3.f 1
    have g2 := x3.f 2
    have g3 := x3.f 3
    have hvk := HV.out
    obtain ⟨r, E, RO, hE3, -⟩ := root_of (N := N) (k := k) (d := 3) (e := e) (by omega) (by omega) (by rw [← hvk]; omega) (by rw [← hvk]; omega) hpar (by rw [← hvk]; exact hv2) hL2
    rw [HE2.out] at hE3
    obtain ⟨e3, he3⟩ : ∃ e3 : Int, e2 + 3 = e3 := ⟨_, rfl⟩
    have hee : e3 = 2 * E := by rw [← he3, ← hE3]; rfl
    have htd : e3.tdiv 2 = E := by rw [hee]; exact Int.mul_tdiv_cancel_left _ (by omega)
    have htd2 : IntKind.i64.wrap E = E := by rw [IntKind.wrap_i64]; omega
    have hex := exact_word (hi := H2) (lo := L2) (r := r) (by rw [RO.words]; exact RO.r0) (by rw [RO.words]; exact RO.r1) RO.r3 RO.hlo
    rw [RO.words] at hex
    have hxx : (IntKind.u64.wrap ((r : Int) * (r : Int)) == (L2 : Int)) = decide (r * r = N * 2 ^ (k - 3)) := by
      rw [Bool.eq_iff_iff, beq_iff_eq, decide_eq_true_iff, ← hex, IntKind.wrap_u64, ← Int.natCast_mul]
      omega
    have RO := Lib.hid RO
    obtain ⟨ex, hexl⟩ : ∃ ex, decide (r * r = N * 2 ^ (k - 3)) = ex := ⟨_, rfl⟩
    rw [hexl] at hxx
    have HEX := Lib.hid hexl
    clear hv2 hex hexl hE3 hvk hpar hee
    go_upto_region 3 with fail
    have x4 := x3.stored (H2 : Int) (L2 : Int) e3 false
    have ho := only_nset4 w3 B (.int .u64 (H2 : Int)) (.int .u64 (L2 : Int)) (.int .i64 e3) (.bool false)
    have r4 := r3.only ho (by omega)
    have b4 := b3.trans (ho.below (B := B) (Nat.le_refl _))
    generalize (((w3.setCell ⟨B, 0, none⟩ (.int .u64 (H2 : Int))).setCell ⟨B, 1, none⟩ (.int .u64 (L2 : Int))).setCell ⟨B, 2, none⟩ (.int .i64 e3)).setCell ⟨B, 3, none⟩ (.bool false) = W4 at *
    clear c0 c1 c2 c3 g0 g1 g2 g3 x3 r3 b3 ho
    have c0 := x4.c0
    have c1 := x4.c1
    have c2 := x4.c2
    have c3 := x4.c3
    have q0 := r4.c0
    have q1 := r4.c1
    have q2 := r4.c2
    have q3 := r4.c3
    have p0 := r4.f 0
    have p1 := r4.f 1
    have p2 := r4.f 2
    have p3 := r4.f 3
    have z := r4.stored 0 (r : Int) E (!ex)
    have z0 := z.c0
    have z1 := z.c1
    have z2 := z.c2
    have z3 := z.c3
    have B4 := Lib.hid (b4.trans ((only_nset4 W4 (B + 1) (.int .u64 0) (.int .u64 (r : Int)) (.int .i64 E) (.bool (!ex))).below (B := B) (by omega)))
    clear z x4 r4 b4
    go_wp2_with fail
    refine (CW.out H2 L2 r E _ _ RO.out _).mono ?_
    rintro x w5 ⟨rfl, rfl⟩
    go_wp2
    refine bodyPost_ret (v := .agg #[.int .u64 0, .int .u64 (r : Int), .int .i64 E, .bool (!ex)]) (by simp [results, Tryd.results65, go_sem, z0, z1, z2, z3]) rfl ?_
    refine ⟨r, E, k - 3, H2, L2, by rw [HEX.out], RO.out, by omega, by omega, ?_⟩
    show Below _ _ _
    rw [HBe.out]
    exact B4.out
end Go.Proofs.YtekocoklfnojmaaDoor
