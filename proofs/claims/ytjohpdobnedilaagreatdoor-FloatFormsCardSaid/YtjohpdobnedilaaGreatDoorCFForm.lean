/- What float.Exponent, Scale and FromInt do. -/
import Derived.Test.YtjohpdobnedilaaGreatDoorCFFormM
import Derived.Test.YtjohpdobnedilaaGreatDoorHc
namespace Go.Proofs.YtjohpdobnedilaaGreatDoor
open Go.RowKit

set_option maxRecDepth 100000 in
set_option maxHeartbeats 2000000 in
theorem fexponent_any (f : Nat) (hf : f < 18446744073709551616) (w : World) (c : Int) (ok : Bool) (h : fexpF f = (c, ok)) :
    Calls Tryz.prog 14 #[.int .u64 (f : Int)] w fun e w' => e = .returned (.tuple #[.int .i64 c, .bool ok]) ∧ Ext w w' := by
  have CF := Lib.hid (fun w => isFinite_any f hf w)
  have CZ := Lib.hid (fun w => isZero_any f hf w)
  have CS := Lib.hid (fun w => fsplit_any f hf w)
  unfold fexpF at h
  have hsl := fsh_lt f
  have hsg := sig_lt f
  have hsz := @sig_nz f
  generalize finB f = bf at *
  generalize zeroB f = bz at *
  generalize sig f = N at *
  generalize fsh f = k at *
  clear hf
  cases bf with
  | false =>
    rw [Bool.false_and, if_neg (by simp)] at h
    injection h with h1 h2
    subst h1 h2
    clear hsz hsg hsl
    go_enter Tryz.func14, Tryz.ntmps14
    go_wp2_with (first | (go_at_call 18; (with_reducible refine (CF.out _).mono ?_); rintro e w' ⟨rfl, rfl⟩))
    exact bodyPost_ret (v := .tuple #[.int .i64 0, .bool false]) (by simp [results, Tryz.results14, go_sem]) rfl ⟨rfl, Ext.refl _⟩
  | true =>
    cases bz with
    | true =>
      rw [if_neg (by simp)] at h
      injection h with h1 h2
      subst h1 h2
      clear hsz hsg hsl
      go_enter Tryz.func14, Tryz.ntmps14
      go_wp2_with (first | (go_at_call 18; (with_reducible refine (CF.out _).mono ?_); rintro e w' ⟨rfl, rfl⟩) | (go_at_call 73; (with_reducible refine (CZ.out _).mono ?_); rintro e w' ⟨rfl, rfl⟩))
      exact bodyPost_ret (v := .tuple #[.int .i64 0, .bool false]) (by simp [results, Tryz.results14, go_sem]) rfl ⟨rfl, Ext.refl _⟩
    | false =>
      rw [if_pos (by simp)] at h
      injection h with h1 h2
      subst h1 h2
      have h0 : N ≠ 0 := hsz rfl
      have l0 := Nat.log2_self_le h0
      have l1 := @Nat.lt_log2_self N
      have l2 : Nat.log2 N < 53 := (Nat.log2_lt h0).2 hsg
      obtain ⟨j, hj, hj2⟩ : ∃ j : Nat, j ≤ 63 ∧ Nat.log2 N = 63 - j := ⟨63 - Nat.log2 N, by omega, by omega⟩
      have CN := Lib.hid (fun w => fnormal_lo N j (-1074 + (k : Int)) false (by rw [← hj2]; exact l0) (by rw [show 64 - j = Nat.log2 N + 1 by omega]; exact l1) hj (by omega) (by omega) w)
      have hV : (-1074 + (k : Int) + (Nat.log2 N : Int)) = -1074 + (k : Int) - 64 - (j : Int) + 128 - 1 := by omega
      rw [hV]
      obtain ⟨X, hX⟩ : ∃ X, -1074 + (k : Int) - 64 - (j : Int) = X := ⟨_, rfl⟩
      have hX0 : -2000 ≤ X := by omega
      have hX1 : X ≤ 2000 := by omega
      rw [hX] at CN ⊢
      obtain ⟨M, hM⟩ : ∃ M : Int, ((N * 2 ^ j : Nat) : Int) = M := ⟨_, rfl⟩
      rw [hM] at CN
      have hfd : ∀ w : World, (Instr.field 68 (.agg #[.int .u64 M, .int .u64 0, .int .i64 X, .bool false]) 2).run Tryz.prog w = .ok (.int .i64 X) w := fun _ => by kernel_rfl
      have hw1 : IntKind.i64.wrap (X + 128) = X + 128 := IntWalk.i64_in _ ⟨by omega, by omega⟩
      have hw2 : IntKind.i64.wrap (X + 128 - 1) = X + 128 - 1 := IntWalk.i64_in _ ⟨by omega, by omega⟩
      clear hX hM hV hj hj2 l0 l1 l2 h0 hsz hsg hsl
      go_enter Tryz.func14, Tryz.ntmps14
      go_wp2_with (first | (go_at_call 18; (with_reducible refine (CF.out _).mono ?_); rintro e w' ⟨rfl, rfl⟩) | (go_at_call 73; (with_reducible refine (CZ.out _).mono ?_); rintro e w' ⟨rfl, rfl⟩))
      refine (CS.out _).mono ?_
      rintro e w1 ⟨rfl, h1⟩
      go_wp2_with fail
      refine (CN.out _).mono ?_
      rintro e w2 ⟨rfl, h2⟩
      have HE := Lib.hid (Ext.trans h1 h2)
      clear h1 h2
      go_wp2
      exact bodyPost_ret (v := .tuple #[.int .i64 (X + 128 - 1), .bool true]) (by simp [results, Tryz.results14, go_sem]) rfl ⟨rfl, HE.out⟩

set_option maxRecDepth 100000 in
set_option maxHeartbeats 2000000 in
theorem fscale_any (f : Nat) (hf : f < 18446744073709551616) (n mode : Int) (w : World) (R : Nat) (h : fscaleF f n mode = R) :
    Calls Tryz.prog 33 #[.int .u64 (f : Int), .int .i64 n, .int .i64 mode] w fun e w' => e = .returned (.int .u64 (R : Int)) ∧ Ext w w' := by
  have CN := Lib.hid (fun w => isNaN_any f hf w)
  have CZ := Lib.hid (fun w => isZero_any f hf w)
  have CI := Lib.hid (fun w => isInf_any f hf w)
  have CS := Lib.hid (fun w => fsplit_any f hf w)
  have CG := Lib.hid (fun w => signOf_any f hf w)
  unfold fscaleF at h
  have hsl := fsh_lt f
  have hsg := sig_lt f
  have hsz := @sig_nz f
  generalize nanB f = bn at *
  generalize zeroB f = bz at *
  generalize infB f = bi at *
  generalize sig f = N at *
  generalize fsh f = k at *
  generalize fneg f = s at *
  cases bn with
  | true =>
    rw [if_pos rfl] at h
    subst h
    clear hsz hsg hsl hf
    go_enter Tryz.func33, Tryz.ntmps33
    go_wp2_with (first | (go_at_call 68; (with_reducible refine (CN.out _).mono ?_); rintro e w' ⟨rfl, rfl⟩))
    go_ret
    exact ⟨rfl, Ext.refl _⟩
  | false =>
    rw [if_neg (by simp)] at h
    cases bz with
    | true =>
      rw [Bool.true_or, if_pos rfl] at h
      subst h
      clear hsz hsg hsl hf
      go_enter Tryz.func33, Tryz.ntmps33
      go_wp2_with (first | (go_at_call 68; (with_reducible refine (CN.out _).mono ?_); rintro e w' ⟨rfl, rfl⟩) | (go_at_call 73; (with_reducible refine (CZ.out _).mono ?_); rintro e w' ⟨rfl, rfl⟩))
      go_ret
      exact ⟨rfl, Ext.refl _⟩
    | false =>
      cases bi with
      | true =>
        rw [Bool.false_or, if_pos rfl] at h
        subst h
        clear hsz hsg hsl hf
        go_enter Tryz.func33, Tryz.ntmps33
        go_wp2_with (first | (go_at_call 68; (with_reducible refine (CN.out _).mono ?_); rintro e w' ⟨rfl, rfl⟩) | (go_at_call 73; (with_reducible refine (CZ.out _).mono ?_); rintro e w' ⟨rfl, rfl⟩) | (go_at_call 88; (with_reducible refine (CI.out _).mono ?_); rintro e w' ⟨rfl, rfl⟩))
        go_ret
        exact ⟨rfl, Ext.refl _⟩
      | false =>
        rw [Bool.or_false, if_neg (by simp)] at h
        have h0 : N ≠ 0 := hsz rfl
        obtain ⟨L, hL⟩ : ∃ L, max (-4194) (min n 4194) = L := ⟨_, rfl⟩
        have hL0 : -4194 ≤ L := by omega
        have hL1 : L ≤ 4194 := by omega
        rw [hL] at h
        obtain ⟨E, hE⟩ : ∃ E, -1074 + (k : Int) = E := ⟨_, rfl⟩
        rw [hE] at h CS
        have hE0 : -2000 ≤ E := by omega
        have hE1 : E ≤ 2000 := by omega
        have CR := fun w => fround_any 0 N (E + L) false s mode (by omega) (by omega) (by omega) (by intro h; cases h) (by omega) (by omega) w
        rw [show 0 * 18446744073709551616 + N = N by omega, show sgz s + fla s N (E + L) false mode = R by rw [← h]; rfl] at CR
        obtain ⟨z, hz⟩ : ∃ z : Int, ((sgz s : Nat) : Int) = z := ⟨_, rfl⟩
        rw [hz] at CR CG
        have CR := Lib.hid (show ∀ w, Calls Tryz.prog 89 #[.agg #[.int .u64 0, .int .u64 (N : Int), .int .i64 (E + L), .bool false], .int .u64 z, .int .i64 mode] w fun r w' => r = .returned (.int .u64 (R : Int)) ∧ Ext w w' from CR)
        have hw1 : IntKind.i64.wrap (E + max (-4194) (min n 4194)) = E + L := by rw [hL]; exact IntWalk.i64_in _ ⟨by omega, by omega⟩
        clear hE h0 hsz hsg hsl h hL hz
        go_enter Tryz.func33, Tryz.ntmps33
        go_wp2_with (first | (go_at_call 68; (with_reducible refine (CN.out _).mono ?_); rintro e w' ⟨rfl, rfl⟩) | (go_at_call 73; (with_reducible refine (CZ.out _).mono ?_); rintro e w' ⟨rfl, rfl⟩) | (go_at_call 88; (with_reducible refine (CI.out _).mono ?_); rintro e w' ⟨rfl, rfl⟩))
        refine (CS.out _).mono ?_
        rintro e w1 ⟨rfl, h1⟩
        go_upto_region 6 with fail
        obtain ⟨W, hW, hB, hx, hzz⟩ := nbox_new w1 0 N E false
        rw [← hW]
        clear hW
        have hE1 : Ext w W := Ext.trans h1 hB
        have hsz1 : w.heap.size ≤ w1.heap.size := Below.size h1
        generalize w1.heap.size = B at *
        have c0 := hx.c0
        have c1 := hx.c1
        have c2 := hx.c2
        have c3 := hx.c3
        have g2 := hx.f 2
        go_upto_region 7 with fail
        have hx := hx.stored2 (E + L)
        have hE1 : Ext w (W.setCell ⟨B, 2, none⟩ (.int .i64 (E + L))) := Below.trans hE1 ((only_set1 W B 2 (.int .i64 (E + L))).below hsz1)
        generalize W.setCell ⟨B, 2, none⟩ (.int .i64 (E + L)) = V at *
        clear c0 c1 c2 c3 g2 hB h1 hsz1 hzz hw1
        have hex : Ext V V.drew := (Below.refl _ _).drew
        have c0 := hx.c0
        have c1 := hx.c1
        have c2 := hx.c2
        have c3 := hx.c3
        have HC := Lib.hid (show ∀ wx, Ext V wx → (wx.cell? ⟨B, 0, none⟩ = some (.int .u64 0) ∧ wx.cell? ⟨B, 1, none⟩ = some (.int .u64 (N : Int)) ∧ wx.cell? ⟨B, 2, none⟩ = some (.int .i64 (E + L)) ∧ wx.cell? ⟨B, 3, none⟩ = some (.bool false)) from fun wx h => ⟨(hx.below h).c0, (hx.below h).c1, (hx.below h).c2, (hx.below h).c3⟩)
        have HE := Lib.hid hE1
        clear hx hE1
        go_region_held3 (fun wx => wx.cell? ⟨B, 0, none⟩ = some (.int .u64 0) ∧ wx.cell? ⟨B, 1, none⟩ = some (.int .u64 (N : Int)) ∧ wx.cell? ⟨B, 2, none⟩ = some (.int .i64 (E + L)) ∧ wx.cell? ⟨B, 3, none⟩ = some (.bool false))
          (first | exact HC.out _ (by assumption))
          (first
            | (go_at_call 90; (with_reducible refine (CG.out _).mono ?_); rintro e w5 ⟨rfl, rfl⟩)
            | (go_at_call 89; (with_reducible refine (CR.out _).mono ?_); rintro e w6 ⟨rfl, hw6⟩; have ex6 : Ext V w6 := Ext.trans hex hw6))
        have HF := Lib.hid (Ext.trans HE.out ex6)
        go_wp2
        go_ret
        exact ⟨rfl, HF.out⟩

set_option maxRecDepth 100000 in
set_option maxHeartbeats 2000000 in
theorem ffromInt_any (n mode : Int) (w : World) (h0 : -9223372036854775808 ≤ n) (h1 : n ≤ 9223372036854775807) (hT : Table w) :
    Calls Tryz.prog 31 #[.int .i64 n, .int .i64 mode] w fun e w' => e = .returned (.int .u64 ((frdF (dmk n 0) mode : Nat) : Int)) ∧ Ext w w' := by
  have C1 := Lib.hid (dfromInt_any n w h0 h1 hT)
  have HTT := Lib.hid (fun W (hE : Ext w W) => hT.below hE)
  generalize dmk n 0 = d at *
  clear h0 h1 hT
  go_enter Tryz.func31, Tryz.ntmps31
  go_wp2_with fail
  refine C1.out.mono ?_
  rintro e w1 ⟨v, rfl, hv, h1⟩
  go_wp2_with fail
  refine (frd_any _ _ mode _ hv.dg (HTT.out _ h1)).mono ?_
  rintro e w2 ⟨rfl, h2⟩
  have HE := Lib.hid (Ext.trans h1 h2)
  clear h1 h2 hv
  go_wp2
  go_ret
  exact ⟨rfl, HE.out⟩
end Go.Proofs.YtjohpdobnedilaaGreatDoor
