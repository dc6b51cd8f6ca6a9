/- What the reference's Neg, Abs, Up, Down, Exponent, Scale and FromInt do. -/
import Derived.Test.YtjohpdobnedilaaGreatDoorCFFormM
import Derived.Test.YtjohpdobnedilaaGreatDoorId
import Derived.Test.YtjohpdobnedilaaGreatDoorIh
import Derived.Test.YtjohpdobnedilaaGreatDoorCRefOf
import Derived.Test.YtjohpdobnedilaaGreatDoorCRefRnd2
import Derived.Test.YtjohpdobnedilaaGreatDoorCRefAddS
namespace Go.Proofs.YtjohpdobnedilaaGreatDoor
open Go Go.RowKit

set_option maxRecDepth 100000 in
theorem refNegF_any (f : Nat) (hf : f < 18446744073709551616) (w : World) :
    Calls Tryz.prog 21 #[.int .u64 (f : Int)] w fun e w' => e = .returned (.int .u64 ((fnegF f : Nat) : Int)) ∧ w = w' := by
  have ha := xor_sign hf
  have hcall := fun b hb => refNan_any f hf b hb
  unfold fnegF
  generalize sgz (!fneg f) + fmag f = v at *
  cases hn : nanB f
  all_goals
    have HN := Lib.hid (hcall _ hn)
    clear hn hcall hf
    go_enter Tryz.func21, Tryz.ntmps21
    go_wp2_with (first | (go_at_call 71; (with_reducible refine (HN.out _).mono ?_); rintro e w' ⟨rfl, rfl⟩))
    go_ret
    exact ⟨rfl, rfl⟩

set_option maxRecDepth 100000 in
theorem refAbsF_any (f : Nat) (hf : f < 18446744073709551616) (w : World) :
    Calls Tryz.prog 23 #[.int .u64 (f : Int)] w fun e w' => e = .returned (.int .u64 ((fabsF f : Nat) : Int)) ∧ w = w' := by
  have ha := andNot_sign hf
  have hcall := fun b hb => refNan_any f hf b hb
  unfold fabsF
  generalize fmag f = v at *
  cases hn : nanB f
  all_goals
    have HN := Lib.hid (hcall _ hn)
    clear hn hcall hf
    go_enter Tryz.func23, Tryz.ntmps23
    go_wp2_with (first | (go_at_call 71; (with_reducible refine (HN.out _).mono ?_); rintro e w' ⟨rfl, rfl⟩))
    go_ret
    exact ⟨rfl, rfl⟩

set_option maxRecDepth 100000 in
set_option maxHeartbeats 1000000 in
theorem refUpF_any (f : Nat) (hf : f < 18446744073709551616) (w : World) :
    Calls Tryz.prog 28 #[.int .u64 (f : Int)] w fun e w' => e = .returned (.int .u64 ((fupF f : Nat) : Int)) ∧ w = w' := by
  have hc := fup_cases hf
  have cN := fun b hb => refNan_any f hf b hb
  have cZ := fun b hb => refZero_any f hf b ((kind_zero f).trans hb)
  have cM := fun b hb => refMinus_any f hf b hb
  generalize fupF f = u at *
  rcases hc with ⟨hn, rfl⟩ | ⟨hn, ⟨hi, rfl⟩ | ⟨hi, ⟨hz, rfl⟩ | ⟨hz, ⟨hs, h1, rfl⟩ | ⟨hs, h1, rfl⟩⟩⟩⟩
  · have NN := Lib.hid (cN _ hn)
    clear hn cN cZ cM
    go_enter Tryz.func28, Tryz.ntmps28
    go_wp2_with (first | (go_at_call 71; (with_reducible refine (NN.out _).mono ?_); rintro e w' ⟨rfl, rfl⟩))
    go_ret
    exact ⟨rfl, rfl⟩
  · have NN := Lib.hid (cN _ hn)
    have b0 : ((u : Int) == 9218868437227405312) = true := by rw [beq_iff_eq]; omega
    clear hn hi cN cZ cM
    go_enter Tryz.func28, Tryz.ntmps28
    go_wp2_with (first | (go_at_call 71; (with_reducible refine (NN.out _).mono ?_); rintro e w' ⟨rfl, rfl⟩))
    go_ret
    exact ⟨rfl, rfl⟩
  · have NN := Lib.hid (cN _ hn)
    have ZZ := Lib.hid (cZ _ hz)
    have b0 : ((f : Int) == 9218868437227405312) = false := by rw [beq_eq_false_iff_ne]; omega
    clear hn hi hz cN cZ cM
    go_enter Tryz.func28, Tryz.ntmps28
    go_wp2_with (first | (go_at_call 71; (with_reducible refine (NN.out _).mono ?_); rintro e w' ⟨rfl, rfl⟩) | (go_at_call 83; (with_reducible refine (ZZ.out _).mono ?_); rintro e w' ⟨rfl, rfl⟩))
    go_ret
    exact ⟨rfl, rfl⟩
  · have NN := Lib.hid (cN _ hn)
    have ZZ := Lib.hid (cZ _ hz)
    have MM := Lib.hid (cM _ hs)
    have b0 : ((f : Int) == 9218868437227405312) = false := by rw [beq_eq_false_iff_ne]; omega
    have b1 : (0 : Int) ≤ (f : Int) - 1 := by omega
    have b2 : (((f - 1 : Nat) : Nat) : Int) = (f : Int) - 1 := by omega
    have B2 := Lib.hid b2
    clear hn hi hz hs h1 b2 cN cZ cM
    go_enter Tryz.func28, Tryz.ntmps28
    go_wp2_with (first | (go_at_call 71; (with_reducible refine (NN.out _).mono ?_); rintro e w' ⟨rfl, rfl⟩) | (go_at_call 83; (with_reducible refine (ZZ.out _).mono ?_); rintro e w' ⟨rfl, rfl⟩) | (go_at_call 82; (with_reducible refine (MM.out _).mono ?_); rintro e w' ⟨rfl, rfl⟩))
    go_ret
    exact ⟨ret_int (by rw [B2.out]), rfl⟩
  · have NN := Lib.hid (cN _ hn)
    have ZZ := Lib.hid (cZ _ hz)
    have MM := Lib.hid (cM _ hs)
    have b0 : ((f : Int) == 9218868437227405312) = false := by rw [beq_eq_false_iff_ne]; omega
    have b1 : (f : Int) + 1 < 18446744073709551616 := by omega
    have b2 : (((f + 1 : Nat) : Nat) : Int) = (f : Int) + 1 := by omega
    have B2 := Lib.hid b2
    clear hn hi hz hs h1 b2 cN cZ cM
    go_enter Tryz.func28, Tryz.ntmps28
    go_wp2_with (first | (go_at_call 71; (with_reducible refine (NN.out _).mono ?_); rintro e w' ⟨rfl, rfl⟩) | (go_at_call 83; (with_reducible refine (ZZ.out _).mono ?_); rintro e w' ⟨rfl, rfl⟩) | (go_at_call 82; (with_reducible refine (MM.out _).mono ?_); rintro e w' ⟨rfl, rfl⟩))
    go_ret
    exact ⟨ret_int (by rw [B2.out]), rfl⟩

set_option maxRecDepth 100000 in
theorem refDownF_any (f : Nat) (hf : f < 18446744073709551616) (w : World) :
    Calls Tryz.prog 30 #[.int .u64 (f : Int)] w fun e w' => e = .returned (.int .u64 ((fdownF f : Nat) : Int)) ∧ w = w' := by
  unfold fdownF
  have h1 := @fnegF_lt f
  have c1 := refNegF_any f hf w
  generalize fnegF f = a at *
  have h2 := fupF_lt h1
  have c2 := refUpF_any a h1 w
  generalize fupF a = b at *
  have c3 := refNegF_any b h2 w
  generalize fnegF b = c at *
  have C1 := Lib.hid c1
  have C2 := Lib.hid c2
  have C3 := Lib.hid c3
  clear c1 c2 c3 h1 h2 hf
  go_enter Tryz.func30, Tryz.ntmps30
  go_wp2_with fail
  refine C1.out.mono ?_
  rintro e w1 ⟨rfl, rfl⟩
  go_wp2_with fail
  refine C2.out.mono ?_
  rintro e w1 ⟨rfl, rfl⟩
  go_wp2_with fail
  refine C3.out.mono ?_
  rintro e w1 ⟨rfl, rfl⟩
  go_wp2
  go_ret
  exact ⟨rfl, rfl⟩

theorem kind_one (f : Nat) : (fkind f == 1) = (finB f && !zeroB f) := by
  unfold finB zeroB
  rcases fkind_cases f with ⟨h1, h2⟩ | ⟨h1, h1', h2⟩ | ⟨h1, h2⟩ | ⟨h1, h2⟩
  · rw [h2, decide_eq_true h1]; simp
  · rw [h2, decide_eq_true h1', decide_eq_false h1]; rfl
  · rw [h2, decide_eq_false (show ¬ fmag f < 9218868437227405312 by omega)]; rfl
  · rw [h2, decide_eq_false (show ¬ fmag f < 9218868437227405312 by omega)]; rfl

set_option maxRecDepth 100000 in
set_option maxHeartbeats 2000000 in
theorem refExponent_any (f : Nat) (hf : f < 18446744073709551616) (w : World) (c : Int) (ok : Bool) (h : fexpF f = (c, ok)) (hT : Table w) :
    Calls Tryz.prog 15 #[.int .u64 (f : Int)] w fun e w' => e = .returned (.tuple #[.int .i64 c, .bool ok]) ∧ Ext w w' := by
  have CK := refKind_any f hf w
  have hk := kind_one f
  obtain ⟨kd, hkd⟩ : ∃ kd, fkind f = kd := ⟨_, rfl⟩
  rw [hkd] at CK hk
  have CK := Lib.hid CK
  unfold fexpF at h
  cases hb : (finB f && !zeroB f) with
  | false =>
    rw [hb] at h hk
    rw [if_neg (by simp)] at h
    injection h with h1 h2
    subst h1 h2
    have hk1 : (kd != 1) = true := by rw [bne, hk]; rfl
    clear hk hb hkd hf hT
    go_enter Tryz.func15, Tryz.ntmps15
    go_wp2_with fail
    refine CK.out.mono ?_
    rintro e w1 ⟨rfl, rfl⟩
    go_wp2
    exact bodyPost_ret (v := .tuple #[.int .i64 0, .bool false]) (by simp [results, Tryz.results15, go_sem]) rfl ⟨rfl, Ext.refl _⟩
  | true =>
    rw [hb] at h hk
    rw [if_pos rfl] at h
    injection h with h1 h2
    subst h1 h2
    rw [Bool.and_eq_true] at hb
    have hz : zeroB f = false := by simpa using hb.2
    obtain ⟨l1, l2⟩ := fdy_log hb.1 (sig_nz hz)
    have CO := Lib.hid (refOf_any f hf w hT)
    have HTT := Lib.hid (fun W (hE : Ext w W) => hT.below hE)
    rw [← l2]
    generalize fdy f = d at *
    have hk1 : kd = 1 := by simpa using hk
    subst hk1
    have L1 := Lib.hid l1
    clear hk hb hkd hf hT hz l1 l2
    go_enter Tryz.func15, Tryz.ntmps15
    go_wp2_with fail
    refine CK.out.mono ?_
    rintro e w1 ⟨rfl, rfl⟩
    go_wp2_with fail
    refine CO.out.mono ?_
    rintro e w1 ⟨v, rfl, hv, h1⟩
    go_wp2_with fail
    refine (ref_dlog_any _ _ _ hv.dl (HTT.out _ h1)).mono ?_
    rintro e w2 ⟨hlo, h2⟩
    have HE := Lib.hid (Ext.trans h1 h2)
    clear h1 h2 hv
    rcases hlo with ⟨hz, _⟩ | ⟨_, rfl⟩
    · exact absurd hz L1.out
    · go_wp2
      exact bodyPost_ret (v := .tuple #[.int .i64 (dtop d - 1), .bool true]) (by simp [results, Tryz.results15, go_sem]) rfl ⟨rfl, HE.out⟩

set_option maxRecDepth 100000 in
set_option maxHeartbeats 2000000 in
theorem refScale_any (f : Nat) (hf : f < 18446744073709551616) (n mode : Int) (w : World) (R : Nat) (h : fscaleF f n mode = R) (hT : Table w) :
    Calls Tryz.prog 34 #[.int .u64 (f : Int), .int .i64 n, .int .i64 mode] w fun e w' => e = .returned (.int .u64 (R : Int)) ∧ Ext w w' := by
  have CK := fun w => refKind_any f hf w
  have hk := kind_one f
  obtain ⟨kd, hkd⟩ : ∃ kd, fkind f = kd := ⟨_, rfl⟩
  rw [hkd] at CK hk
  have CK := Lib.hid CK
  have cN := fun b hb => refNan_any f hf b hb
  unfold fscaleF at h
  cases bn : nanB f with
  | true =>
    rw [bn, if_pos rfl] at h
    subst h
    have NN := Lib.hid (cN _ bn)
    clear hk bn hkd hf hT cN CK
    go_enter Tryz.func34, Tryz.ntmps34
    go_wp2_with (first | (go_at_call 71; (with_reducible refine (NN.out _).mono ?_); rintro e w' ⟨rfl, rfl⟩))
    go_ret
    exact ⟨rfl, Ext.refl _⟩
  | false =>
    have NN := Lib.hid (cN _ bn)
    rw [bn, if_neg (by simp)] at h
    cases hb : (zeroB f || infB f) with
    | true =>
      rw [hb, if_pos rfl] at h
      subst h
      have hk1 : (kd != 1) = true := by
        have : (finB f && !zeroB f) = false := by
          rw [Bool.or_eq_true] at hb
          rcases hb with hb | hb
          · rw [hb]; simp
          · have h2 : fmag f = 9218868437227405312 := of_decide_eq_true hb
            rw [show finB f = false from decide_eq_false (by omega)]; rfl
        rw [bne, hk, this]; rfl
      clear hk bn hkd hf hT cN hb
      go_enter Tryz.func34, Tryz.ntmps34
      go_wp2_with (first | (go_at_call 71; (with_reducible refine (NN.out _).mono ?_); rintro e w' ⟨rfl, rfl⟩) | (go_at_call 17; (with_reducible refine (CK.out _).mono ?_); rintro e w' ⟨rfl, rfl⟩))
      go_ret
      exact ⟨rfl, Ext.refl _⟩
    | false =>
      rw [hb, if_neg (by simp)] at h
      rw [Bool.or_eq_false_iff] at hb
      have hfin := fin_ofN bn hb.2
      have hk1 : kd = 1 := by simpa [hfin, hb.1] using hk
      subst hk1
      rw [flr_far (sig_nz hb.1) _ _ hfin, ← scaled_flr hfin (sig_nz hb.1) (by omega) (by omega)] at h
      obtain ⟨L, hL⟩ : ∃ L, max (-5000) (min n 5000) = L := ⟨_, rfl⟩
      have hL0 : -5000 ≤ L := by omega
      have hL1 : L ≤ 5000 := by omega
      rw [hL] at h
      have hL : max (-5000) (min 5000 n) = L := by omega
      have CO := Lib.hid (refOf_any f hf w hT)
      have HTT := Lib.hid (fun W (hE : Ext w W) => hT.below hE)
      generalize fdy f = d at *
      have HR := Lib.hid h
      have HL := Lib.hid hL
      clear hk bn hkd hf hT cN hb h hL hfin
      go_enter Tryz.func34, Tryz.ntmps34
      go_wp2_with (first | (go_at_call 71; (with_reducible refine (NN.out _).mono ?_); rintro e w' ⟨rfl, rfl⟩) | (go_at_call 17; (with_reducible refine (CK.out _).mono ?_); rintro e w' ⟨rfl, rfl⟩))
      rw [HL.out]
      refine CO.out.mono ?_
      rintro e w1 ⟨v, rfl, hv, h1⟩
      go_wp2_with fail
      refine (ref_dscale_any _ _ _ _ hv.dl (by omega) (by omega) (HTT.out _ h1)).mono ?_
      rintro e w2 ⟨v2, rfl, hv2, h2⟩
      have h2 := Ext.trans h1 h2
      go_wp2_with fail
      refine (refRound_any _ _ mode _ hv2.dl (HTT.out _ h2)).mono ?_
      rintro e w3 ⟨rfl, h3⟩
      rw [HR.out]
      have HE := Lib.hid (Ext.trans h2 h3)
      clear h1 h2 h3 hv hv2
      go_wp2
      go_ret
      exact ⟨rfl, HE.out⟩

set_option maxRecDepth 100000 in
set_option maxHeartbeats 2000000 in
theorem refFFromInt_any (n mode : Int) (w : World) (h0 : -9223372036854775808 ≤ n) (h1 : n ≤ 9223372036854775807) (hT : Table w) :
    Calls Tryz.prog 32 #[.int .i64 n, .int .i64 mode] w fun e w' => e = .returned (.int .u64 ((frdF (dmk n 0) mode : Nat) : Int)) ∧ Ext w w' := by
  have C1 := Lib.hid (refDFromInt_any n w h0 h1 hT)
  have HTT := Lib.hid (fun W (hE : Ext w W) => hT.below hE)
  generalize dmk n 0 = d at *
  clear h0 h1 hT
  go_enter Tryz.func32, Tryz.ntmps32
  go_wp2_with fail
  refine C1.out.mono ?_
  rintro e w1 ⟨v, rfl, hv, h1⟩
  go_wp2_with fail
  refine (refRound_any _ _ mode _ hv.dl (HTT.out _ h1)).mono ?_
  rintro e w2 ⟨rfl, h2⟩
  have HE := Lib.hid (Ext.trans h1 h2)
  clear h1 h2 hv
  go_wp2
  go_ret
  exact ⟨rfl, HE.out⟩
end Go.Proofs.YtjohpdobnedilaaGreatDoor
