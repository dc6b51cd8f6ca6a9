import Derived.Test.YtekocoklfnojmaaGreatDoorARootU38
import Derived.Test.YtekocoklfnojmaaGreatDoorARootU45
import Derived.Test.YtekocoklfnojmaaGreatDoorARootU33
namespace Go.Proofs.YtekocoklfnojmaaGreatDoor
open Go.RowKit

set_option maxRecDepth 100000 in
set_option maxHeartbeats 4000000 in
theorem froot_any {A j hi lo : Nat} {e ea : Int} {t : Bool} (hh : hi < 18446744073709551616) (hlo : lo < 18446744073709551616) (hN : hi * 18446744073709551616 + lo = A / 2 ^ j) (ht : t = decide (A % 2 ^ j ≠ 0)) (hN0 : hi * 18446744073709551616 + lo ≠ 0) (htop : t = true → 2 ^ 127 ≤ hi * 18446744073709551616 + lo) (hea : e = ea + j) (he0 : -100000000 ≤ e) (he1 : e ≤ 110000000) (w : World) :
    Calls Tryz.prog 135 #[.agg #[.int .u64 (hi : Int), .int .u64 (lo : Int), .int .i64 e, .bool t]] w fun x w' => ∃ r E T, x = .returned (.agg #[.int .u64 0, .int .u64 ((r : Nat) : Int), .int .i64 E, .bool T]) ∧ RootG A ea r E T ∧ -200000000 ≤ E ∧ E ≤ 200000000 ∧ Ext w w' := by
  have CN := Lib.hid (fun w => fnormal_any hi lo e t hh hlo hN0 (by omega) (by omega) w)
  have CW := Lib.hid (fun (hi lo M : Nat) (hM : hi * 18446744073709551616 + lo = M) (h0 : lo < 18446744073709551616) (h1 : 2 ^ 124 ≤ M) (h2 : M < 2 ^ 126) (h3 : 4611686018427387904 ≤ isq M) (h4 : isq M < 9223372036854775808) w => wordRoot_any (hi := hi) (lo := lo) (s := isq M) h0 (by omega) (by omega) (by rw [hM]; exact (isq_spec M).1) (by rw [hM]; exact (isq_spec M).2) h3 h4 w)
  obtain ⟨N, hNe⟩ : ∃ N, hi * 18446744073709551616 + lo = N := ⟨_, rfl⟩
  rw [hNe] at hN hN0 htop CN
  have HN := Lib.hid hN
  have HT := Lib.hid ht
  have HTOP := Lib.hid htop
  have HEA := Lib.hid hea
  clear hNe hN ht htop hN0 hh hlo hea
  go_enter Tryz.func135, Tryz.ntmps135
  go_upto_region 1 with fail
  obtain ⟨W, hW, hB, hx, hr, hz⟩ := boxes_nn w (hi : Int) (lo : Int) e t 0 0 0 false
  rw [← hW]
  clear hW
  generalize hBe : w.heap.size = B at *
  have HBe := Lib.hid hBe
  clear hBe
  have c0 := hx.c0
  have c1 := hx.c1
  have c2 := hx.c2
  have c3 := hx.c3
  go_wp2_with fail
  refine (CN.out _).mono ?_
  rintro x w1 ⟨H, L, k, rfl, hv, hH0, hH1, hL, hk, hE⟩
  have x1 := hx.below hE
  have r1 := hr.below hE
  have b1 : Below B w w1 := hB.trans (Below.mono hE (by omega))
  clear c0 c1 c2 c3 hx hr hB hE CN hz
  have c0 := x1.c0
  have c1 := x1.c1
  have c2 := x1.c2
  have c3 := x1.c3
  have g0 := x1.f 0
  have g1 := x1.f 1
  have g2 := x1.f 2
  have g3 := x1.f 3
  have hv' : H * 18446744073709551616 + L = N * 2 ^ k := hv
  have hk0 : t = true → k = 0 := by
    intro htt
    have h1 := HTOP.out htt
    rcases Nat.eq_zero_or_pos k with h | h
    · exact h
    · exfalso
      have h2 : N * 2 ≤ N * 2 ^ k := Nat.mul_le_mul_left _ (Nat.le_trans (by decide) (Nat.pow_le_pow_right (n := 2) (by omega) h))
      omega
  have HK0 := Lib.hid hk0
  clear hk0
  obtain ⟨e2, he2⟩ : ∃ e2 : Int, e - (k : Int) = e2 := ⟨_, rfl⟩
  have hb2 : -100000127 ≤ e2 ∧ e2 ≤ 110000000 := by omega
  obtain ⟨hb20, hb21⟩ := hb2
  have HV := Lib.hid hv'
  have HE2 := Lib.hid he2
  clear hv hv'
  go_upto_region 2 with fail
  clear he2
  have x2 := x1.stored (H : Int) (L : Int) e2 t
  have ho := only_nset4 w1 B (.int .u64 (H : Int)) (.int .u64 (L : Int)) (.int .i64 e2) (.bool t)
  have r2 := r1.only ho (by omega)
  have b2 := b1.trans (ho.below (B := B) (Nat.le_refl _))
  generalize (((w1.setCell ⟨B, 0, none⟩ (.int .u64 (H : Int))).setCell ⟨B, 1, none⟩ (.int .u64 (L : Int))).setCell ⟨B, 2, none⟩ (.int .i64 e2)).setCell ⟨B, 3, none⟩ (.bool t) = W2 at *
  clear c0 c1 c2 c3 g0 g1 g2 g3 x1 r1 b1 ho
  have c0 := x2.c0
  have c1 := x2.c1
  have c2 := x2.c2
  have c3 := x2.c3
  have hband := and_one_i64 e2
  rcases Int.emod_two_eq e2 with hp | hp
  · rw [hp] at hband
    have hpar : (e - k + (2 : Nat)) % 2 = 0 := by rw [HE2.out]; omega
    obtain ⟨t3, ht3⟩ : ∃ t3, (t || decide ((H * 18446744073709551616 + L) % 2 ^ 2 ≠ 0)) = t3 := ⟨_, rfl⟩
    have CD : ∀ w, Calls Tryz.prog 179 #[.agg #[.int .u64 (H : Int), .int .u64 (L : Int), .int .i64 e2, .bool t], .int .i64 2] w fun r w' => ∃ H' L' : Nat, r = .returned (.agg #[.int .u64 (H' : Int), .int .u64 (L' : Int), .int .i64 (e2 + 2), .bool t3]) ∧ H' * 18446744073709551616 + L' = (H * 18446744073709551616 + L) / 2 ^ 2 ∧ H' < 18446744073709551616 ∧ L' < 18446744073709551616 ∧ Ext w w' := fun w => by rw [← ht3]; exact fdown_any H L 2 e2 t hH1 hL (by omega) (by omega) (by omega) w
    have CD := Lib.hid CD
    have HT3 := Lib.hid ht3
    clear hp ht3
    go_wp2_with fail
    refine (CD.out _).mono ?_
    rintro x w3 ⟨H2, L2, rfl, hv2, -, hL2, hE⟩
    have x3 := x2.below hE
    have r3 := r2.below hE
    have hsz := x2.lt
    have b3 : Below B w w3 := b2.trans (Below.mono hE (by omega))
    clear c0 c1 c2 c3 x2 r2 b2 hE hsz hband
    have c0 := x3.c0
    have c1 := x3.c1
    have c2 := x3.c2
    have c3 := x3.c3
    have g0 := x3.f 0
    have g1 := x3.f 1
    have g2 := x3.f 2
    have g3 := x3.f 3
    have hvk := HV.out
    rw [hvk] at hv2
    obtain ⟨m1, m2, m3, m4⟩ := isq_top (M := N * 2 ^ k) (d := 2) (by omega) (by rw [← hvk]; omega) (by rw [← hvk]; omega)
    obtain ⟨E, hE3⟩ : ∃ E : Int, e2 + (2 : Nat) = 2 * E := ⟨(e2 + (2 : Nat)) / 2, by have := HE2.out; omega⟩
    have RO := rootG_of (d := 2) (r := isq (N * 2 ^ k / 2 ^ 2)) HN.out HT.out HK0.out HEA.out (E := E) (by rw [HE2.out]; exact hE3) rfl m3 m4
    rw [← hvk, HT3.out] at RO
    have CWd := CW.out H2 L2 _ hv2 hL2 m1 m2 m3 m4
    have hex := exact_word (hi := H2) (lo := L2) (r := isq (N * 2 ^ k / 2 ^ 2)) (by rw [hv2]; exact (isq_spec _).1) (by rw [hv2]; exact (isq_spec _).2) m4 hL2
    rw [hv2] at hex
    rw [hvk] at RO
    obtain ⟨M2, hM2⟩ : ∃ M2, N * 2 ^ k / 2 ^ 2 = M2 := ⟨_, rfl⟩
    rw [hM2] at RO CWd hex m3 m4
    obtain ⟨r, hr⟩ : ∃ r, isq M2 = r := ⟨_, rfl⟩
    rw [hr] at RO CWd hex m3 m4
    have CWd := Lib.hid CWd
    clear hr hM2 m1 m2 hv2
    obtain ⟨e3, he3⟩ : ∃ e3 : Int, e2 + 2 = e3 := ⟨_, rfl⟩
    have hee : e3 = 2 * E := by rw [← he3, ← hE3]; rfl
    have htd : e3.tdiv 2 = E := by rw [hee]; exact Int.mul_tdiv_cancel_left _ (by omega)
    have htd2 : IntKind.i64.wrap E = E := by rw [IntKind.wrap_i64]; omega
    have hEb0 : -200000000 ≤ E := by omega
    have hEb1 : E ≤ 200000000 := by omega
    have hxx : (IntKind.u64.wrap ((r : Int) * (r : Int)) == (L2 : Int)) = decide (r * r = M2) := by
      rw [Bool.eq_iff_iff, beq_iff_eq, decide_eq_true_iff, ← hex, IntKind.wrap_u64, ← Int.natCast_mul]
      omega
    obtain ⟨ex, hexl⟩ : ∃ ex, decide (r * r = M2) = ex := ⟨_, rfl⟩
    rw [hexl] at hxx
    have hne : decide (r * r ≠ M2) = !ex := by rw [← hexl, ← decide_not]
    rw [hne] at RO
    have RO := Lib.hid RO
    clear hne
    clear hex hexl hE3 hvk hpar hee
    go_upto_region 3 with fail
    have x4 := x3.stored (H2 : Int) (L2 : Int) e3 t3
    have ho := only_nset4 w3 B (.int .u64 (H2 : Int)) (.int .u64 (L2 : Int)) (.int .i64 e3) (.bool t3)
    have r4 := r3.only ho (by omega)
    have b4 := b3.trans (ho.below (B := B) (Nat.le_refl _))
    generalize (((w3.setCell ⟨B, 0, none⟩ (.int .u64 (H2 : Int))).setCell ⟨B, 1, none⟩ (.int .u64 (L2 : Int))).setCell ⟨B, 2, none⟩ (.int .i64 e3)).setCell ⟨B, 3, none⟩ (.bool t3) = W4 at *
    clear c0 c1 c2 c3 g0 g1 g2 g3 x3 r3 b3 ho
    have c0 := x4.c0
    have c1 := x4.c1
    have c2 := x4.c2
    have c3 := x4.c3
    have q0 := r4.c0
    have q1 := r4.c1
    have q2 := r4.c2
    have q3 := r4.c3
    have p0 := r4.f 0
    have p1 := r4.f 1
    have p2 := r4.f 2
    have p3 := r4.f 3
    cases t3
    · have z := r4.stored 0 (r : Int) E (!ex)
      have z0 := z.c0
      have z1 := z.c1
      have z2 := z.c2
      have z3 := z.c3
      have B4 := Lib.hid (b4.trans ((only_nset4 W4 (B + 1) (.int .u64 0) (.int .u64 (r : Int)) (.int .i64 E) (.bool (!ex))).below (B := B) (by omega)))
      clear z x4 r4 b4
      go_wp2_with fail
      refine (CWd.out _).mono ?_
      rintro x w5 ⟨rfl, rfl⟩
      go_wp2
      refine bodyPost_ret (v := .agg #[.int .u64 0, .int .u64 (r : Int), .int .i64 E, .bool (!ex)]) (by simp [results, Tryz.results135, go_sem, z0, z1, z2, z3]) rfl ?_
      refine ⟨r, E, _, rfl, RO.out, hEb0, hEb1, ?_⟩
      show Below _ _ _
      rw [HBe.out]
      exact B4.out
    · have z := r4.stored 0 (r : Int) E true
      have z0 := z.c0
      have z1 := z.c1
      have z2 := z.c2
      have z3 := z.c3
      have B4 := Lib.hid (b4.trans ((only_nset4 W4 (B + 1) (.int .u64 0) (.int .u64 (r : Int)) (.int .i64 E) (.bool true)).below (B := B) (by omega)))
      clear z x4 r4 b4
      go_wp2_with fail
      refine (CWd.out _).mono ?_
      rintro x w5 ⟨rfl, rfl⟩
      go_wp2
      refine bodyPost_ret (v := .agg #[.int .u64 0, .int .u64 (r : Int), .int .i64 E, .bool true]) (by simp [results, Tryz.results135, go_sem, z0, z1, z2, z3]) rfl ?_
      refine ⟨r, E, _, rfl, RO.out, hEb0, hEb1, ?_⟩
      show Below _ _ _
      rw [HBe.out]
      exact B4.out
  · rw [hp] at hband
    have hpar : (e - k + (3 : Nat)) % 2 = 0 := by rw [HE2.out]; omega
    obtain ⟨t3, ht3⟩ : ∃ t3, (t || decide ((H * 18446744073709551616 + L) % 2 ^ 3 ≠ 0)) = t3 := ⟨_, rfl⟩
    have CD : ∀ w, Calls Tryz.prog 179 #[.agg #[.int .u64 (H : Int), .int .u64 (L : Int), .int .i64 e2, .bool t], .int .i64 3] w fun r w' => ∃ H' L' : Nat, r = .returned (.agg #[.int .u64 (H' : Int), .int .u64 (L' : Int), .int .i64 (e2 + 3), .bool t3]) ∧ H' * 18446744073709551616 + L' = (H * 18446744073709551616 + L) / 2 ^ 3 ∧ H' < 18446744073709551616 ∧ L' < 18446744073709551616 ∧ Ext w w' := fun w => by rw [← ht3]; exact fdown_any H L 3 e2 t hH1 hL (by omega) (by omega) (by omega) w
    have CD := Lib.hid CD
    have HT3 := Lib.hid ht3
    clear hp ht3
    go_wp2_with fail
    refine (CD.out _).mono ?_
    rintro x w3 ⟨H2, L2, rfl, hv2, -, hL2, hE⟩
    have x3 := x2.below hE
    have r3 := r2.below hE
    have hsz := x2.lt
    have b3 : Below B w w3 := b2.trans (Below.mono hE (by omega))
    clear c0 c1 c2 c3 x2 r2 b2 hE hsz hband
    have c0 := x3.c0
    have c1 := x3.c1
    have c2 := x3.c2
    have c3 := x3.c3
    have g0 := x3.f 0
    have g1 := x3.f 1
    have g2 := x3.f 2
    have g3 := x3.f 3
    have hvk := HV.out
    rw [hvk] at hv2
    obtain ⟨m1, m2, m3, m4⟩ := isq_top (M := N * 2 ^ k) (d := 3) (by omega) (by rw [← hvk]; omega) (by rw [← hvk]; omega)
    obtain ⟨E, hE3⟩ : ∃ E : Int, e2 + (3 : Nat) = 2 * E := ⟨(e2 + (3 : Nat)) / 2, by have := HE2.out; omega⟩
    have RO := rootG_of (d := 3) (r := isq (N * 2 ^ k / 2 ^ 3)) HN.out HT.out HK0.out HEA.out (E := E) (by rw [HE2.out]; exact hE3) rfl m3 m4
    rw [← hvk, HT3.out] at RO
    have CWd := CW.out H2 L2 _ hv2 hL2 m1 m2 m3 m4
    have hex := exact_word (hi := H2) (lo := L2) (r := isq (N * 2 ^ k / 2 ^ 3)) (by rw [hv2]; exact (isq_spec _).1) (by rw [hv2]; exact (isq_spec _).2) m4 hL2
    rw [hv2] at hex
    rw [hvk] at RO
    obtain ⟨M2, hM2⟩ : ∃ M2, N * 2 ^ k / 2 ^ 3 = M2 := ⟨_, rfl⟩
    rw [hM2] at RO CWd hex m3 m4
    obtain ⟨r, hr⟩ : ∃ r, isq M2 = r := ⟨_, rfl⟩
    rw [hr] at RO CWd hex m3 m4
    have CWd := Lib.hid CWd
    clear hr hM2 m1 m2 hv2
    obtain ⟨e3, he3⟩ : ∃ e3 : Int, e2 + 3 = e3 := ⟨_, rfl⟩
    have hee : e3 = 2 * E := by rw [← he3, ← hE3]; rfl
    have htd : e3.tdiv 2 = E := by rw [hee]; exact Int.mul_tdiv_cancel_left _ (by omega)
    have htd2 : IntKind.i64.wrap E = E := by rw [IntKind.wrap_i64]; omega
    have hEb0 : -200000000 ≤ E := by omega
    have hEb1 : E ≤ 200000000 := by omega
    have hxx : (IntKind.u64.wrap ((r : Int) * (r : Int)) == (L2 : Int)) = decide (r * r = M2) := by
      rw [Bool.eq_iff_iff, beq_iff_eq, decide_eq_true_iff, ← hex, IntKind.wrap_u64, ← Int.natCast_mul]
      omega
    obtain ⟨ex, hexl⟩ : ∃ ex, decide (r * r = M2) = ex := ⟨_, rfl⟩
    rw [hexl] at hxx
    have hne : decide (r * r ≠ M2) = !ex := by rw [← hexl, ← decide_not]
    rw [hne] at RO
    have RO := Lib.hid RO
    clear hne
    clear hex hexl hE3 hvk hpar hee
    go_upto_region 3 with fail
    have x4 := x3.stored (H2 : Int) (L2 : Int) e3 t3
    have ho := only_nset4 w3 B (.int .u64 (H2 : Int)) (.int .u64 (L2 : Int)) (.int .i64 e3) (.bool t3)
    have r4 := r3.only ho (by omega)
    have b4 := b3.trans (ho.below (B := B) (Nat.le_refl _))
    generalize (((w3.setCell ⟨B, 0, none⟩ (.int .u64 (H2 : Int))).setCell ⟨B, 1, none⟩ (.int .u64 (L2 : Int))).setCell ⟨B, 2, none⟩ (.int .i64 e3)).setCell ⟨B, 3, none⟩ (.bool t3) = W4 at *
    clear c0 c1 c2 c3 g0 g1 g2 g3 x3 r3 b3 ho
    have c0 := x4.c0
    have c1 := x4.c1
    have c2 := x4.c2
    have c3 := x4.c3
    have q0 := r4.c0
    have q1 := r4.c1
    have q2 := r4.c2
    have q3 := r4.c3
    have p0 := r4.f 0
    have p1 := r4.f 1
    have p2 := r4.f 2
    have p3 := r4.f 3
    cases t3
    · have z := r4.stored 0 (r : Int) E (!ex)
      have z0 := z.c0
      have z1 := z.c1
      have z2 := z.c2
      have z3 := z.c3
      have B4 := Lib.hid (b4.trans ((only_nset4 W4 (B + 1) (.int .u64 0) (.int .u64 (r : Int)) (.int .i64 E) (.bool (!ex))).below (B := B) (by omega)))
      clear z x4 r4 b4
      go_wp2_with fail
      refine (CWd.out _).mono ?_
      rintro x w5 ⟨rfl, rfl⟩
      go_wp2
      refine bodyPost_ret (v := .agg #[.int .u64 0, .int .u64 (r : Int), .int .i64 E, .bool (!ex)]) (by simp [results, Tryz.results135, go_sem, z0, z1, z2, z3]) rfl ?_
      refine ⟨r, E, _, rfl, RO.out, hEb0, hEb1, ?_⟩
      show Below _ _ _
      rw [HBe.out]
      exact B4.out
    · have z := r4.stored 0 (r : Int) E true
      have z0 := z.c0
      have z1 := z.c1
      have z2 := z.c2
      have z3 := z.c3
      have B4 := Lib.hid (b4.trans ((only_nset4 W4 (B + 1) (.int .u64 0) (.int .u64 (r : Int)) (.int .i64 E) (.bool true)).below (B := B) (by omega)))
      clear z x4 r4 b4
      go_wp2_with fail
      refine (CWd.out _).mono ?_
      rintro x w5 ⟨rfl, rfl⟩
      go_wp2
      refine bodyPost_ret (v := .agg #[.int .u64 0, .int .u64 (r : Int), .int .i64 E, .bool true]) (by simp [results, Tryz.results135, go_sem, z0, z1, z2, z3]) rfl ?_
      refine ⟨r, E, _, rfl, RO.out, hEb0, hEb1, ?_⟩
      show Below _ _ _
      rw [HBe.out]
      exact B4.out
end Go.Proofs.YtekocoklfnojmaaGreatDoor

namespace Go.Proofs.YtekocoklfnojmaaGreatDoor
open Go.RowKit

set_option maxRecDepth 100000 in
set_option maxHeartbeats 4000000 in
theorem flead_top (ao : Option Addr) (n ca X : Nat) (e : Int) (w : World) (h : Sl w ao n ca (limbs X)) (hX : X ≠ 0 ∧ (X % 2 = 1 ∨ X < 2 ^ 128)) (hn : n ≤ 100000) (he0 : -100000000 ≤ e) (he1 : e ≤ 100000000) :
    Calls Tryz.prog 140 #[.slice ao n ca, .int .i64 e] w fun r w' => ∃ (H L : Nat) (E : Int) (T : Bool) (j : Nat), r = .returned (.agg #[.int .u64 (H : Int), .int .u64 (L : Int), .int .i64 E, .bool T]) ∧
      H < 18446744073709551616 ∧ L < 18446744073709551616 ∧ H * 18446744073709551616 + L = X / 2 ^ j ∧ H * 18446744073709551616 + L ≠ 0 ∧ E = e + j ∧ T = decide (X % 2 ^ j ≠ 0) ∧ (T = true → 2 ^ 127 ≤ H * 18446744073709551616 + L) ∧ (X < 2 ^ 128 → j = 0) ∧ j ≤ 3200000 ∧ Ext w w' := by
  have hlen := h.len
  have hXn : X / 4294967296 ^ n = 0 := by
    refine Nat.div_eq_of_lt ((limbs_len_le X n).1 (by omega))
  have hwf : ∀ r, r < n → (limbs X).getD r 0 = ((X / 4294967296 ^ r % 4294967296 : Nat) : Int) := fun r _ => limbs_at X r
  have hcap := h.cap
  have HS := Lib.hid h
  have HXO := Lib.hid hX
  have HW := Lib.hid hwf
  clear hwf hX
  go_enter Tryz.func140, Tryz.ntmps140
  go_upto_region 2 with fail
  obtain ⟨W, hW, hB, hr, hx, hz⟩ := boxes_nn w 0 0 0 false 0 0 0 false
  rw [← hW]
  clear hW
  have HBB := Lib.hid (show ∀ b off, ao = some ⟨b, off, none⟩ → 0 < n → b < w.heap.size from fun b off e h0 => by
    obtain ⟨b', off', e', hc⟩ := HS.out.cells (by rw [hlen]; exact h0)
    rw [e] at e'
    obtain ⟨rfl, rfl⟩ : b = b' ∧ off = off' := by simpa using e'
    exact lt_of_cell (hc 0 (by rw [hlen]; exact h0)))
  have HSW := Lib.hid (show ∀ wx, Below w.heap.size w wx → Sl wx ao n ca (limbs X) from fun wx hb => HS.out.below hb)
  clear h
  generalize hBe : w.heap.size = B at *
  have HBe := Lib.hid hBe
  clear hBe HS
  go_upto_region 3 with fail
  go_loopw [6] (fun rest wx => ∃ (r hi lo : Nat), rest = .int .i64 (r : Int) ∧ r ≤ n ∧ hi < 18446744073709551616 ∧ lo < 18446744073709551616 ∧ RowKit.Hid (hi * 18446744073709551616 + lo = X / 4294967296 ^ r) ∧ NBox wx (B + 1) (hi : Int) (lo : Int) 0 false ∧ NBox wx B 0 0 0 false ∧ Below B w wx) (fun rest _ => (intOf rest).toNat)
  case atStart => exact ⟨n, 0, 0, rfl, Nat.le_refl _, by omega, by omega, Lib.hid (by rw [hXn]), hx, hr, hB⟩
  case round =>
    clear hx hr hB
    obtain ⟨r, hi, lo, rfl, hrn, hh, hl, HV, hx, hr, hB⟩ := hrel
    have c0 := hx.c0
    have c1 := hx.c1
    have c2 := hx.c2
    have c3 := hx.c3
    have g0 := hx.f 0
    have g1 := hx.f 1
    have g2 := hx.f 2
    have g3 := hx.f 3
    by_cases h0 : 0 < r
    · obtain ⟨m, rfl⟩ : ∃ m, r = m + 1 := ⟨r - 1, by omega⟩
      obtain ⟨b, off, rfl, hc⟩ := (HSW.out wr hB).cells (by rw [hlen]; omega)
      have hcell := hc m (by rw [hlen]; omega)
      rw [HW.out m (by omega)] at hcell
      have hcx : ∀ wx, Below B w wx → wx.cell? ⟨b, off + m, none⟩ = some (.int .u32 ((X / 4294967296 ^ m % 4294967296 : Nat) : Int)) := fun wx hb => by
        obtain ⟨b', off', e', hc'⟩ := (HSW.out wx hb).cells (by rw [hlen]; omega)
        obtain ⟨rfl, rfl⟩ : b = b' ∧ off = off' := by simpa using e'
        rw [← HW.out m (by omega)]
        exact hc' m (by rw [hlen]; omega)
      have hxm : X / 4294967296 ^ m % 4294967296 < 4294967296 := Nat.mod_lt _ (by omega)
      have HD := Lib.hid (lead_down X m)
      have HLT := fun k (hk : k < 32) (hb : hi < 2 ^ (64 - k)) => lead_tail (r := m) HV hl hk hb
      have HXC := Lib.hid (show 4294967296 ≤ hi → ¬ X < 2 ^ 128 from fun hge h => by
        have h1 := HV.out
        have h2 := Nat.div_mul_le_self X (4294967296 ^ (m + 1))
        rw [← h1] at h2
        have h3 : 4294967296 ≤ 4294967296 ^ (m + 1) := by
          rw [Nat.pow_succ]; exact Nat.le_mul_of_pos_left _ (Nat.pow_pos (by omega))
        have h4 := Nat.mul_le_mul (show 4294967296 * 18446744073709551616 ≤ hi * 18446744073709551616 + lo by omega) h3
        omega)
      have HXT := Lib.hid (show 4294967296 ≤ hi → ∀ j, j ≠ 0 → X % 2 ^ j ≠ 0 from fun hge => by
        rcases HXO.out.2 with h | h
        · exact lead_odd h
        · exact absurd h (HXC.out hge))
      generalize X / 4294967296 ^ m % 4294967296 = x at *
      clear hc
      have hbb0 : b < B := HBB.out b off rfl (by omega)
      have hbb1 : B + 1 ≠ b := by omega
      have hbb2 : b ≠ B + 1 := by omega
      by_cases hs : hi < 4294967296
      · obtain ⟨p1, p2, p3, p4, p5, p6⟩ := lead_step (x := x) rfl hl hs hxm
        have HP1 := Lib.hid p1
        have t0 : ((hi : Int) / 4294967296 == 0) = true := by rw [beq_iff_eq]; omega
        have s1 := wrap32s hs
        have s2 : (lo : Int) / 4294967296 = ((lo / 4294967296 : Nat) : Int) := by omega
        have s3 := or_add32 (a := hi) (b := lo / 4294967296) p3 p2
        have s4 := wrap32 lo
        have s5 := or_add32 (a := lo % 4294967296) (b := x) hxm p6
        clear p1 HLT
        rw [p5] at HP1
        clear p5
        obtain ⟨hi2, hhi2⟩ : ∃ hi2, hi * 4294967296 + lo / 4294967296 = hi2 := ⟨_, rfl⟩
        obtain ⟨lo2, hlo2⟩ : ∃ lo2, lo % 4294967296 * 4294967296 + x = lo2 := ⟨_, rfl⟩
        rw [hhi2] at HP1 s3 p2
        rw [hlo2] at HP1 s5 p6
        obtain ⟨A, hA⟩ : ∃ A, hi * 4294967296 = A := ⟨_, rfl⟩
        obtain ⟨C, hC⟩ : ∃ C, lo % 4294967296 * 4294967296 = C := ⟨_, rfl⟩
        obtain ⟨E, hE⟩ : ∃ E, lo / 4294967296 = E := ⟨_, rfl⟩
        rw [hA] at s1 s3
        rw [hC] at s4 s5
        rw [hE] at s2 s3
        clear hhi2 hlo2 hA hC hE p3 p4
        go_wp2
        go_region
        go_wp2
        go_roundw
        case rel =>
          have ho := only_set2 wr (B + 1) (.int .u64 (hi2 : Int)) (.int .u64 (lo2 : Int))
          exact ⟨m, hi2, lo2, by go_num, by omega, p2, p6, Lib.hid (by rw [HP1.out, HV.out, ← HD.out]), (hx.stored01 hi2 lo2).drew, hr.only ho.drew (by omega), hB.trans (ho.drew.below (B := B) (by omega))⟩
        case measure => simp [intOf]
      · have t0 : ((hi : Int) / 4294967296 == 0) = false := by rw [beq_eq_false_iff_ne]; omega
        obtain ⟨k, hk, hk0, hk1⟩ : ∃ k : Nat, k < 32 ∧ 2 ^ (63 - k) ≤ hi ∧ hi < 2 ^ (64 - k) := lead_free (by omega) hh
        have HXT := Lib.hid (HXT.out (by omega))
        have HXC := Lib.hid (HXC.out (by omega))
        obtain ⟨p1, p2, q, p3, p4⟩ := HLT k hk hk1
        obtain ⟨w1, w2, w3, w4⟩ := norm_words hl (show k ≤ 64 by omega) hk1
        have hge : 9223372036854775808 * 18446744073709551616 ≤ (hi * 2 ^ k + lo / 2 ^ (64 - k)) * 18446744073709551616 := by
          have h3 : 2 ^ (63 - k) * 2 ^ k ≤ hi * 2 ^ k := Nat.mul_le_mul_right _ hk0
          rw [← Nat.pow_add, show 63 - k + k = 63 by omega] at h3
          have h4 : 9223372036854775808 ≤ hi * 2 ^ k + lo / 2 ^ (64 - k) := Nat.le_trans (Nat.le_trans (by decide) h3) (Nat.le_add_right _ _)
          omega
        have CN := Lib.hid (fnormal_hi hi lo k (e + ((m : Int) + 1) * 32) false hk0 hk1 (by omega) hl (by omega) (by omega))
        have CL := Lib.hid (lz_any hk0 hk1 (by omega))
        have s3 := or_add p2 p4
        rw [p3] at p1 CN
        have s1 : (x : Int) / 2 ^ (32 - k) = ((x / 2 ^ (32 - k) : Nat) : Int) := (cast_divpow _ _).symm
        have s2 : (32 - (k : Int)) = ((32 - k : Nat) : Int) := by omega
        have HE := Lib.hid (show e + ((m : Int) + 1) * 32 - (k : Int) = e + ((32 * (m + 1) - k : Nat) : Int) by omega)
        have HP1 := Lib.hid p1
        obtain ⟨Y, hY⟩ : ∃ Y, hi * 2 ^ k + lo / 2 ^ (64 - k) = Y := ⟨_, rfl⟩
        obtain ⟨x2, hx2⟩ : ∃ x2, x / 2 ^ (32 - k) = x2 := ⟨_, rfl⟩
        obtain ⟨Z, hZ⟩ : ∃ Z, q * 2 ^ k = Z := ⟨_, rfl⟩
        rw [hY] at HP1 w2 CN hge
        rw [hx2] at s1 s3 p4 HP1
        rw [hZ] at s3 p4 HP1 CN
        have s6 : IntKind.u64.wrap (x2 : Int) = (x2 : Int) := wrap_nat (by omega)
        obtain ⟨Z2, hZ2⟩ : ∃ Z2, Z + x2 = Z2 := ⟨_, rfl⟩
        rw [hZ2] at s3 HP1 p4
        clear hY hx2 hZ hZ2 p1 p2 p3 w1 w3 w4 HLT hk0 hk1
        have hE0 : -9223372036854775808 ≤ e + ((m : Int) + 1) * 32 := by omega
        have hE2 : e + ((m : Int) + 1) * 32 ≤ 9223372036854775807 := by omega
        obtain ⟨E1, hE1⟩ : ∃ E1 : Int, e + ((m : Int) + 1) * 32 = E1 := ⟨_, rfl⟩
        go_upto_region 8 with fail
        rw [hE1] at CN HE hE0 hE2
        clear hE1
        have x1 := hx.stored2 E1
        have r1 := hr.only (only_set1 wr (B + 1) 2 (.int .i64 E1)) (by omega)
        have b1 := hB.trans ((only_set1 wr (B + 1) 2 (.int .i64 E1)).below (B := B) (by omega))
        generalize wr.setCell ⟨B + 1, 2, none⟩ (.int .i64 E1) = W3 at *
        clear c0 c1 c2 c3 g0 g1 g2 g3 hx hr hB hcell
        have c0 := x1.c0
        have c1 := x1.c1
        have c2 := x1.c2
        have c3 := x1.c3
        have g0 := x1.f 0
        have g1 := x1.f 1
        have g2 := x1.f 2
        have g3 := x1.f 3
        go_wp2_with fail
        refine (CL.out _).mono ?_
        rintro r2 w2 ⟨rfl, rfl⟩
        go_wp2_with fail
        refine (CN.out _).mono ?_
        rintro r2 w4 ⟨rfl, hE4⟩
        have hlt := x1.lt
        have x2 := x1.below hE4
        have r2 := r1.below hE4
        have b2 : Below B w w4 := b1.trans (Below.mono hE4 (by omega))
        clear c0 c1 c2 c3 g0 g1 g2 g3 x1 r1 b1 hE4
        have c0 := x2.c0
        have c1 := x2.c1
        have c2 := x2.c2
        have c3 := x2.c3
        have g0 := x2.f 0
        have g1 := x2.f 1
        have g2 := x2.f 2
        have g3 := x2.f 3
        obtain ⟨E2, hE2'⟩ : ∃ E2 : Int, E1 - (k : Int) = E2 := ⟨_, rfl⟩
        rw [hE2'] at HE
        go_upto_region 11 with fail
        clear hE2'
        have x3 := x2.stored Y Z E2 false
        have ho := only_nset4 w4 (B + 1) (.int .u64 Y) (.int .u64 Z) (.int .i64 E2) (.bool false)
        have r3 := r2.only ho (by omega)
        have b3 := b2.trans (ho.below (B := B) (by omega))
        generalize (((w4.setCell ⟨B + 1, 0, none⟩ (.int .u64 Y)).setCell ⟨B + 1, 1, none⟩ (.int .u64 Z)).setCell ⟨B + 1, 2, none⟩ (.int .i64 E2)).setCell ⟨B + 1, 3, none⟩ (.bool false) = W5 at *
        clear c0 c1 c2 c3 g0 g1 g2 g3 x2 r2 b2 ho
        have hcell := hcx W5 b3
        have c0 := x3.c0
        have c1 := x3.c1
        have c2 := x3.c2
        have c3 := x3.c3
        have g0 := x3.f 0
        have g1 := x3.f 1
        have g2 := x3.f 2
        have g3 := x3.f 3
        go_region
        go_upto_region 13 with fail
        have hh := only_set13 W5 (B + 1) (.int .u64 (Z2 : Int)) (.bool true)
        have x4 := (x3.stored13 (Z2 : Int) true).drew
        have r4 := (r3.only hh (by omega)).drew
        have b4 := (b3.trans (hh.below (B := B) (by omega))).drew
        clear x3 r3 b3 hcell hh
        generalize ((W5.setCell ⟨B + 1, 1, none⟩ (.int .u64 (Z2 : Int))).setCell ⟨B + 1, 3, none⟩ (.bool true)).drew = W6 at *
        clear c0 c1 c2 c3 g0 g1 g2 g3
        have c0 := x4.c0
        have c1 := x4.c1
        have c2 := x4.c2
        have c3 := x4.c3
        have q0 := r4.c0
        have q1 := r4.c1
        have q2 := r4.c2
        have q3 := r4.c3
        have p0 := r4.f 0
        have p1 := r4.f 1
        have p2 := r4.f 2
        have p3 := r4.f 3
        have z := r4.stored (Y : Int) (Z2 : Int) E2 true 
        have z0 := z.c0
        have z1 := z.c1
        have z2 := z.c2
        have z3 := z.c3
        have B4 := Lib.hid (b4.trans ((only_nset4 W6 B (.int .u64 (Y : Int)) (.int .u64 (Z2 : Int)) (.int .i64 E2) (.bool true)).below (B := B) (Nat.le_refl _)))
        clear z x4 r4 b4
        go_wp2
        refine bodyPost_ret (v := .agg #[.int .u64 (Y : Int), .int .u64 (Z2 : Int), .int .i64 E2, .bool true]) (by simp [results, Tryz.results140, go_sem, z0, z1, z2, z3]) rfl ?_
        refine ⟨Y, Z2, E2, true, 32 * (m + 1) - k, rfl, w2, p4, HP1.out, ?_, HE.out, ?_, ?_, fun h => absurd h HXC.out, by omega, ?_⟩
        · omega
        · exact (decide_eq_true (HXT.out _ (by omega))).symm
        · intro _
          exact Nat.le_trans (by decide) (Nat.le_trans hge (Nat.le_add_right _ _))
        · show Below _ _ _
          rw [HBe.out]
          exact B4.out
    · obtain rfl : r = 0 := by omega
      have hV : hi * 18446744073709551616 + lo = X := by have := HV.out; rwa [Nat.pow_zero, Nat.div_one] at this
      go_upto_region 13 with fail
      have x4 := hx.stored2 e
      have r4 := hr.only (only_set1 wr (B + 1) 2 (.int .i64 e)) (by omega)
      have b4 := hB.trans ((only_set1 wr (B + 1) 2 (.int .i64 e)).below (B := B) (by omega))
      clear hx hr hB
      have HV2 := Lib.hid hV
      clear hV
      generalize wr.setCell ⟨B + 1, 2, none⟩ (.int .i64 e) = W6 at *
      clear c0 c1 c2 c3 g0 g1 g2 g3
      have c0 := x4.c0
      have c1 := x4.c1
      have c2 := x4.c2
      have c3 := x4.c3
      have q0 := r4.c0
      have q1 := r4.c1
      have q2 := r4.c2
      have q3 := r4.c3
      have p0 := r4.f 0
      have p1 := r4.f 1
      have p2 := r4.f 2
      have p3 := r4.f 3
      have z := r4.stored (hi : Int) (lo : Int) e false 
      have z0 := z.c0
      have z1 := z.c1
      have z2 := z.c2
      have z3 := z.c3
      have B4 := Lib.hid (b4.trans ((only_nset4 W6 B (.int .u64 (hi : Int)) (.int .u64 (lo : Int)) (.int .i64 e) (.bool false)).below (B := B) (Nat.le_refl _)))
      clear z x4 r4 b4
      go_wp2
      refine bodyPost_ret (v := .agg #[.int .u64 (hi : Int), .int .u64 (lo : Int), .int .i64 e, .bool false]) (by simp [results, Tryz.results140, go_sem, z0, z1, z2, z3]) rfl ?_
      refine ⟨hi, lo, e, false, 0, rfl, hh, hl, by rw [HV2.out, Nat.pow_zero, Nat.div_one], ?_, by simp, by simp [Nat.mod_one], fun h => by (cases h), fun _ => rfl, by omega, ?_⟩
      · rw [HV2.out]; exact HXO.out.1
      · show Below _ _ _
        rw [HBe.out]
        exact B4.out
end Go.Proofs.YtekocoklfnojmaaGreatDoor
