import Derived.Test.YtekocoklfnojmaaDoorIUndoU45
import Derived.Test.YtekocoklfnojmaaDoorIUndoU46
import Derived.Test.YtekocoklfnojmaaDoorIUndoU31
import Derived.Test.YtekocoklfnojmaaDoorIUndoU19
import Derived.Test.YtekocoklfnojmaaDoorIUndoU24
namespace Go.Proofs.YtekocoklfnojmaaDoor
open Go.RowKit

set_option maxRecDepth 100000 in
set_option maxHeartbeats 32000000 in
theorem iundoL_any (a b c d : Nat) (ha : a < 18446744073709551616) (hb : b < 18446744073709551616) (hc : c < 18446744073709551616) (hd : d < 18446744073709551616) (w : World) (hT : Table w) :
    Calls Tryd.prog 3 #[.agg #[.int .u64 (a : Int), .int .u64 (b : Int)], .agg #[.int .u64 (c : Int), .int .u64 (d : Int)]] w fun r w' => r = .returned (.bool true) ∧ Ext w w' := by
  obtain ⟨p, hp⟩ : ∃ p, validF a b = p := ⟨_, rfl⟩
  obtain ⟨q, hq⟩ : ∃ q, validF c d = q := ⟨_, rfl⟩
  have CX := Lib.hid (refValid_any a b ha hb p hp)
  have CY := Lib.hid (refValid_any c d hc hd q hq)
  have HT := Lib.hid hT
  have CA := Lib.hid iawake_any
  go_enter Tryd.func3, Tryd.ntmps3
  go_upto_region 1 with fail
  obtain ⟨V, hW, hB, hx, hy, hsz⟩ := ibox_two w a b c d
  rw [← hW]
  clear hW
  have HB := Lib.hid hB
  generalize w.heap.size = B at hx hy ⊢
  clear hB hsz hT
  have HC := Lib.hid (show ∀ wx, Ext V wx → (wx.cell? ⟨B, 0, none⟩ = some (.int .u64 (a : Int)) ∧ wx.cell? ⟨B, 1, none⟩ = some (.int .u64 (b : Int))) ∧ (wx.cell? ⟨B + 1, 0, none⟩ = some (.int .u64 (c : Int)) ∧ wx.cell? ⟨B + 1, 1, none⟩ = some (.int .u64 (d : Int))) from fun wx h => ⟨⟨(hx.below h).c0, (hx.below h).c1⟩, (hy.below h).c0, (hy.below h).c1⟩)
  clear hx hy
  have HTV := Lib.hid (show ∀ wx, Ext V wx → Table wx from fun wx h => (HT.out.below HB.out).below h)
  obtain ⟨⟨a0, a1⟩, a2, a3⟩ := HC.out V (Ext.refl _)
  have st : Ext V V := Ext.refl _
  cases p with
  | false =>
    clear hp hq ha hb hc hd
    go_wp2_with fail
    refine (CX.out _).mono ?_
    rintro r w1 ⟨rfl, hE⟩
    have st : Ext V w1 := Ext.trans st hE
    clear hE
    clear a0 a1 a2 a3
    go_wp2_with fail
    refine (CA.out _).mono ?_
    rintro r w9 ⟨rfl, hE⟩
    have HF := Lib.hid (HB.out.trans (Ext.trans st hE))
    go_wp2
    go_ret
    exact ⟨rfl, HF.out⟩
  | true =>
  cases q with
  | false =>
    clear hp hq ha hb hc hd
    go_wp2_with fail
    refine (CX.out _).mono ?_
    rintro r w1 ⟨rfl, hE⟩
    have st : Ext V w1 := Ext.trans st hE
    clear a0 a1 a2 a3 hE
    obtain ⟨⟨a0, a1⟩, a2, a3⟩ := HC.out _ st
    go_wp2_with fail
    refine (CY.out _).mono ?_
    rintro r w2 ⟨rfl, hE⟩
    have st : Ext V w2 := Ext.trans st hE
    clear hE
    clear a0 a1 a2 a3
    go_wp2_with fail
    refine (CA.out _).mono ?_
    rintro r w9 ⟨rfl, hE⟩
    have HF := Lib.hid (HB.out.trans (Ext.trans st hE))
    go_wp2
    go_ret
    exact ⟨rfl, HF.out⟩
  | true =>
  have hx := Good.of ha hb hp
  have hy := Good.of hc hd hq
  obtain ⟨n1, hn1⟩ : ∃ r, plainF (faddF a c 1) = r := ⟨_, rfl⟩
  obtain ⟨m1, hm1⟩ : ∃ r, plainF (faddF b d 2) = r := ⟨_, rfl⟩
  have g1 : Good n1 m1 := by rw [← hn1, ← hm1]; exact (add_good hx hy).plain
  have K1 := Lib.hid (fun w => iadd_yes a b c d ha hb hc hd hp hq w)
  rw [hn1, hm1] at K1
  have S2 := add_undo hx hy
  rw [hn1, hm1] at S2
  obtain ⟨n2, hn2⟩ : ∃ r, plainF (faddF n1 (plainF (fnegF d)) 1) = r := ⟨_, rfl⟩
  obtain ⟨m2, hm2⟩ : ∃ r, plainF (faddF m1 (plainF (fnegF c)) 2) = r := ⟨_, rfl⟩
  have g2 : Good n2 m2 := by rw [← hn2, ← hm2]; exact (add_good g1 (neg_good hy).1).plain
  have K2 := Lib.hid (fun w => isub_yes n1 m1 c d g1.l1 g1.l2 hc hd g1.valid hq w)
  rw [hn2, hm2] at K2 S2
  have S2 := Lib.hid (isubset_any a b n2 m2 ha hb g2.l1 g2.l2 true S2)
  obtain ⟨n3, hn3⟩ : ∃ r, plainF (fmulF (migF a b) (migF a b) 1) = r := ⟨_, rfl⟩
  obtain ⟨m3, hm3⟩ : ∃ r, plainF (fmulF (magF a b) (magF a b) 2) = r := ⟨_, rfl⟩
  have g3 : Good n3 m3 := by rw [← hn3, ← hm3]; exact (sqr_good hx).plain
  have K3 := Lib.hid (fun w => isqr_yes a b ha hb hp w)
  rw [hn3, hm3] at K3
  have S4 := sqrs_in hx
  have S7 : 0 ≤ frank a → _ := fun h => root_undo hx h
  rw [hn3, hm3] at S4 S7
  obtain ⟨n4, hn4⟩ : ∃ r, plainF (cornLo fmulF a b a b) = r := ⟨_, rfl⟩
  obtain ⟨m4, hm4⟩ : ∃ r, plainF (cornHi fmulF a b a b) = r := ⟨_, rfl⟩
  have g4 : Good n4 m4 := by rw [← hn4, ← hm4]; exact (mul_good hx hx).1.plain
  have K4 := Lib.hid (fun w => imulG_any hx hx w)
  rw [hn4, hm4] at K4 S4
  have S4 := Lib.hid (isubset_any n3 m3 n4 m4 g3.l1 g3.l2 g4.l1 g4.l2 true S4)
  obtain ⟨n7, hn7⟩ : ∃ r, rootLo n3 = r := ⟨_, rfl⟩
  obtain ⟨m7, hm7⟩ : ∃ r, rootHi m3 = r := ⟨_, rfl⟩
  have K7 := Lib.hid (fun (h : 0 ≤ frank a) w => isqrt_yes n3 m3 g3 (S7 h).1 w)
  rw [hn7, hm7] at K7 S7
  have S7 := Lib.hid (fun (h : 0 ≤ frank a) w => isubset_any a b n7 m7 ha hb (by rw [← hn7]; exact rootLo_lt _ g3.l1) (by rw [← hm7]; exact rootHi_lt _ g3.l2) true (S7 h).2 w)
  obtain ⟨z, hz0⟩ : ∃ z, containsF c d = z := ⟨_, rfl⟩
  have KC := Lib.hid (fun w v (hv : Dg w v (some (0, 0))) hT => icontains_any c d hc hd v _ z ((cont_zeroD hy).trans hz0) w hv hT)
  have KF := Lib.hid (fun w hT => dfromInt_any 0 w (by omega) (by omega) hT)
  obtain ⟨n5, hn5⟩ : ∃ r, plainF (cornLo fdivF a b c d) = r := ⟨_, rfl⟩
  obtain ⟨m5, hm5⟩ : ∃ r, plainF (cornHi fdivF a b c d) = r := ⟨_, rfl⟩
  obtain ⟨n6, hn6⟩ : ∃ r, plainF (cornLo fmulF n5 m5 c d) = r := ⟨_, rfl⟩
  obtain ⟨m6, hm6⟩ : ∃ r, plainF (cornHi fmulF n5 m5 c d) = r := ⟨_, rfl⟩
  have g5 : z = false → Good n5 m5 := fun h => by rw [← hn5, ← hm5]; exact (div_good hx hy (hz0.trans h)).1.plain
  have K5 := Lib.hid (fun (h : z = false) w => idivY_any hx hy (hz0.trans h) w)
  rw [hn5, hm5] at K5
  have K6 := Lib.hid (fun (h : z = false) w => imulG_any (g5 h) hy w)
  rw [hn6, hm6] at K6
  have S6 := fun (h : z = false) => quo_undo hx hy (hz0.trans h)
  rw [hn5, hm5, hn6, hm6] at S6
  have S6 := Lib.hid (fun (h : z = false) w => isubset_any a b n6 m6 ha hb (by rw [← hn6]; exact (mul_good (g5 h) hy).1.plain.l1) (by rw [← hm6]; exact (mul_good (g5 h) hy).1.plain.l2) true (S6 h) w)
  have CC := Lib.hid (fun w => fcmp_any a 0 ha (by decide) (sgn3 (frank a) 0) true (fcmp_num hx.n1 (by decide) (by rw [show frank 0 = 0 by decide])) w)
  have hcc : 0 ≤ sgn3 (frank a) 0 → 0 ≤ frank a := fun h => by unfold sgn3 at h; split at h <;> omega
  have K7 := Lib.hid (fun (h : 0 ≤ sgn3 (frank a) 0) => K7.out (hcc h))
  have S7 := Lib.hid (fun (h : 0 ≤ sgn3 (frank a) 0) => S7.out (hcc h))
  clear hcc
  generalize sgn3 (frank a) 0 = cs at *
  clear hn1 hm1 hn2 hm2 hn3 hm3 hn4 hm4 hn5 hm5 hn6 hm6 hn7 hm7 g1 g2 g3 g4 g5 hx hy hp hq hz0 ha hb hc hd
  go_wp2_with fail
  refine (CX.out _).mono ?_
  rintro r w1 ⟨rfl, hE⟩
  have st : Ext V w1 := Ext.trans st hE
  clear a0 a1 a2 a3 hE
  obtain ⟨⟨a0, a1⟩, a2, a3⟩ := HC.out _ st
  go_wp2_with fail
  refine (CY.out _).mono ?_
  rintro r w2 ⟨rfl, hE⟩
  have st : Ext V w2 := Ext.trans st hE
  clear hE
  clear a0 a1 a2 a3
  obtain ⟨⟨a0, a1⟩, a2, a3⟩ := HC.out _ st
  go_upto_region 3 with fail
  have st : Ext V _ := st.drew
  go_region_held3 (fun wx => (wx.cell? ⟨B, 0, none⟩ = some (.int .u64 (a : Int)) ∧ wx.cell? ⟨B, 1, none⟩ = some (.int .u64 (b : Int))) ∧ (wx.cell? ⟨B + 1, 0, none⟩ = some (.int .u64 (c : Int)) ∧ wx.cell? ⟨B + 1, 1, none⟩ = some (.int .u64 (d : Int))))
    (first | exact HC.out _ (by assumption))
    (first
      | (go_at_call 8; (with_reducible refine (K1.out _).mono ?_); rintro r wn ⟨rfl, hE⟩; have st : Ext V wn := Ext.trans (by assumption) hE; clear hE)
      | (go_at_call 7; (with_reducible refine (K2.out _).mono ?_); rintro r wn ⟨rfl, hE⟩; have st : Ext V wn := Ext.trans (by assumption) hE; clear hE)
      | (go_at_call 6; (with_reducible refine (S2.out _).mono ?_); rintro r wn ⟨rfl, hE⟩; have st : Ext V wn := Ext.trans (by assumption) hE; clear hE)
      | (go_at_call 9; (with_reducible refine (K3.out _).mono ?_); rintro r wn ⟨rfl, hE⟩; have st : Ext V wn := Ext.trans (by assumption) hE; clear hE)
      | (go_at_call 10; (with_reducible refine (K4.out _).mono ?_); rintro r wn ⟨rfl, hE⟩; have st : Ext V wn := Ext.trans (by assumption) hE; clear hE)
      | (go_at_call 6; (with_reducible refine (S4.out _).mono ?_); rintro r wn ⟨rfl, hE⟩; have st : Ext V wn := Ext.trans (by assumption) hE; clear hE)
    )
  cases z with
  | false =>
    have KD := Lib.hid (K5.out rfl)
    have KM := Lib.hid (K6.out rfl)
    have SD := Lib.hid (S6.out rfl)
    clear K5 K6 S6
    clear a0 a1 a2 a3
    obtain ⟨⟨a0, a1⟩, a2, a3⟩ := HC.out _ st
    go_upto_region 5 with fail
    have st : Ext V _ := st.drew
    go_region_held3 (fun wx => (wx.cell? ⟨B, 0, none⟩ = some (.int .u64 (a : Int)) ∧ wx.cell? ⟨B, 1, none⟩ = some (.int .u64 (b : Int))) ∧ (wx.cell? ⟨B + 1, 0, none⟩ = some (.int .u64 (c : Int)) ∧ wx.cell? ⟨B + 1, 1, none⟩ = some (.int .u64 (d : Int))))
      (first | exact HC.out _ (by assumption))
      (first
        | (go_at_call 12; (with_reducible refine (KF.out _ (HTV.out _ (by assumption))).mono ?_); rintro r wn ⟨dz, rfl, hz, hE⟩; have st : Ext V wn := Ext.trans (by assumption) hE; have hz := hz.dg; rw [dmk_zero] at hz; clear hE)
        | (go_at_call 11; (with_reducible refine (KC.out _ _ (by first | exact hz | exact hz.ext (by first | assumption | exact Ext.refl _)) (HTV.out _ (by assumption))).mono ?_); rintro r wn ⟨rfl, hE⟩; have st : Ext V wn := Ext.trans (by assumption) hE; clear hE)
        | (go_at_call 13; (with_reducible refine (KD.out _).mono ?_); rintro r wn ⟨rfl, hE⟩; have st : Ext V wn := Ext.trans (by assumption) hE; clear hE)
        | (go_at_call 10; (with_reducible refine (KM.out _).mono ?_); rintro r wn ⟨rfl, hE⟩; have st : Ext V wn := Ext.trans (by assumption) hE; clear hE)
        | (go_at_call 6; (with_reducible refine (SD.out _).mono ?_); rintro r wn ⟨rfl, hE⟩; have st : Ext V wn := Ext.trans (by assumption) hE; clear hE)
      )
    clear hz
    clear a0 a1 a2 a3
    obtain ⟨⟨a0, a1⟩, a2, a3⟩ := HC.out _ st
    go_wp2_with fail
    refine (CC.out _).mono ?_
    rintro r w7 ⟨rfl, hE⟩
    have st : Ext V w7 := Ext.trans st hE
    clear hE
    by_cases hcs : 0 ≤ cs
    · have SR := Lib.hid (S7.out hcs)
      have KR := Lib.hid (K7.out hcs)
      clear S7 K7
      clear a0 a1 a2 a3
      obtain ⟨⟨a0, a1⟩, a2, a3⟩ := HC.out _ st
      go_upto_region 8 with fail
      have st : Ext V _ := st.drew
      go_region_held3 (fun wx => (wx.cell? ⟨B, 0, none⟩ = some (.int .u64 (a : Int)) ∧ wx.cell? ⟨B, 1, none⟩ = some (.int .u64 (b : Int))) ∧ (wx.cell? ⟨B + 1, 0, none⟩ = some (.int .u64 (c : Int)) ∧ wx.cell? ⟨B + 1, 1, none⟩ = some (.int .u64 (d : Int))))
        (first | exact HC.out _ (by assumption))
        (first
          | (go_at_call 9; (with_reducible refine (K3.out _).mono ?_); rintro r wn ⟨rfl, hE⟩; have st : Ext V wn := Ext.trans (by assumption) hE; clear hE)
          | (go_at_call 15; (with_reducible refine (KR.out _).mono ?_); rintro r wn ⟨rfl, hE⟩; have st : Ext V wn := Ext.trans (by assumption) hE; clear hE)
          | (go_at_call 6; (with_reducible refine (SR.out _).mono ?_); rintro r wn ⟨rfl, hE⟩; have st : Ext V wn := Ext.trans (by assumption) hE; clear hE)
        )
      clear a0 a1 a2 a3
      go_wp2_with fail
      refine (CA.out _).mono ?_
      rintro r w9 ⟨rfl, hE⟩
      have HF := Lib.hid (HB.out.trans (Ext.trans st hE))
      go_wp2
      go_ret
      exact ⟨rfl, HF.out⟩
    · obtain ⟨⟨a0, a1⟩, a2, a3⟩ := HC.out _ st
      have hcs2 : decide (0 ≤ cs) = false := decide_eq_false hcs
      go_upto_region 8 with fail
      go_quiet (fail)
      have st : Ext V _ := below_drewN st nq
      clear a0 a1 a2 a3
      go_wp2_with fail
      refine (CA.out _).mono ?_
      rintro r w9 ⟨rfl, hE⟩
      have HF := Lib.hid (HB.out.trans (Ext.trans st hE))
      go_wp2
      go_ret
      exact ⟨rfl, HF.out⟩
  | true =>
    clear K5 K6 S6
    clear a0 a1 a2 a3
    obtain ⟨⟨a0, a1⟩, a2, a3⟩ := HC.out _ st
    go_upto_region 5 with fail
    have st : Ext V _ := st.drew
    refine wp_region_any (by kernel_rfl) ?_
    change wpAny _ _ _ _ _ _ _ (World.drew _)
    refine wpAny_ready (rs := [0, 1]) (by kernel_rfl) (by simp) ?_
    refine AllReady.cons rfl (fun K hK => ?_) (AllReady.cons rfl (fun K hK => ?_) AllReady.nil)
    · go_simp
      refine hK _ _ ?_
      clear hK K
      change wpAny _ _ _ _ _ _ { tmps := #[.agg #[.int .u64 (a : Int), .int .u64 (b : Int)], .agg #[.int .u64 (c : Int), .int .u64 (d : Int)], .pointer (some ⟨B, 0, none⟩), .pointer (some ⟨B + 1, 0, none⟩), .bool false, undef, undef, .agg #[.int .u64 (a : Int), .int .u64 (b : Int)], .bool true, .bool false, .bool false, .agg #[.int .u64 (c : Int), .int .u64 (d : Int)], .bool true, .bool false, .bool false, undef, .agg #[.int .u64 (a : Int), .int .u64 (b : Int)], .agg #[.int .u64 (a : Int), .int .u64 (b : Int)], .agg #[.int .u64 (c : Int), .int .u64 (d : Int)], .agg #[.int .u64 (n1 : Int), .int .u64 (m1 : Int)], .agg #[.int .u64 (c : Int), .int .u64 (d : Int)], .agg #[.int .u64 (n2 : Int), .int .u64 (m2 : Int)], .bool true, .bool false, .bool false, .agg #[.int .u64 (a : Int), .int .u64 (b : Int)], .agg #[.int .u64 (n3 : Int), .int .u64 (m3 : Int)], .agg #[.int .u64 (a : Int), .int .u64 (b : Int)], .agg #[.int .u64 (a : Int), .int .u64 (b : Int)], .agg #[.int .u64 (n4 : Int), .int .u64 (m4 : Int)], .bool true, .bool false, .bool false, .agg #[.int .u64 (c : Int), .int .u64 (d : Int)], undef, undef, undef, undef, undef, undef, undef, undef, undef, undef, undef, undef, undef, undef, undef, undef, undef, undef, undef, undef, undef, undef, undef, undef, undef, undef, undef, undef, undef, undef], defers := [] } _
      refine wpAny_ready (rs := [1]) (by kernel_rfl) (by simp) ?_
      refine AllReady.cons rfl (fun K hK => ?_) AllReady.nil
      go_simp
      go_wp2_with (go_at_call 12; (with_reducible refine (KF.out _ (HTV.out _ (by assumption))).mono ?_); rintro r wn ⟨dz, rfl, hz, hE⟩; have st : Ext V wn := Ext.trans (by assumption) hE; have hz := hz.dg; rw [dmk_zero] at hz; clear hE a0 a1 a2 a3; obtain ⟨⟨a0, a1⟩, a2, a3⟩ := HC.out _ st)
      first | (refine hK _ _ ?_; clear hK K) | skip
      change wpAny _ _ _ _ _ _ { tmps := #[.agg #[.int .u64 (a : Int), .int .u64 (b : Int)], .agg #[.int .u64 (c : Int), .int .u64 (d : Int)], .pointer (some ⟨B, 0, none⟩), .pointer (some ⟨B + 1, 0, none⟩), .bool false, undef, undef, .agg #[.int .u64 (a : Int), .int .u64 (b : Int)], .bool true, .bool false, .bool false, .agg #[.int .u64 (c : Int), .int .u64 (d : Int)], .bool true, .bool false, .bool false, undef, .agg #[.int .u64 (a : Int), .int .u64 (b : Int)], .agg #[.int .u64 (a : Int), .int .u64 (b : Int)], .agg #[.int .u64 (c : Int), .int .u64 (d : Int)], .agg #[.int .u64 (n1 : Int), .int .u64 (m1 : Int)], .agg #[.int .u64 (c : Int), .int .u64 (d : Int)], .agg #[.int .u64 (n2 : Int), .int .u64 (m2 : Int)], .bool true, .bool false, .bool false, .agg #[.int .u64 (a : Int), .int .u64 (b : Int)], .agg #[.int .u64 (n3 : Int), .int .u64 (m3 : Int)], .agg #[.int .u64 (a : Int), .int .u64 (b : Int)], .agg #[.int .u64 (a : Int), .int .u64 (b : Int)], .agg #[.int .u64 (n4 : Int), .int .u64 (m4 : Int)], .bool true, .bool false, .bool false, .agg #[.int .u64 (c : Int), .int .u64 (d : Int)], dz, undef, undef, undef, undef, undef, undef, undef, undef, undef, undef, undef, undef, undef, undef, undef, undef, undef, undef, undef, undef, undef, undef, undef, undef, undef, undef, undef, undef, undef], defers := [] } _
      refine wpAny_ready (rs := [2]) (by kernel_rfl) (by simp) ?_
      refine AllReady.cons rfl (fun K hK => ?_) AllReady.nil
      go_simp
      go_wp2_with (go_at_call 11; (with_reducible refine (KC.out _ _ (by exact hz) (HTV.out _ (by assumption))).mono ?_); rintro r wk ⟨rfl, hE⟩; have st : Ext V wk := Ext.trans (by assumption) hE; clear hE a0 a1 a2 a3; obtain ⟨⟨a0, a1⟩, a2, a3⟩ := HC.out _ st)
      first | (refine hK _ _ ?_; clear hK K) | skip
      change wpAny _ _ _ _ _ _ { tmps := #[.agg #[.int .u64 (a : Int), .int .u64 (b : Int)], .agg #[.int .u64 (c : Int), .int .u64 (d : Int)], .pointer (some ⟨B, 0, none⟩), .pointer (some ⟨B + 1, 0, none⟩), .bool false, undef, undef, .agg #[.int .u64 (a : Int), .int .u64 (b : Int)], .bool true, .bool false, .bool false, .agg #[.int .u64 (c : Int), .int .u64 (d : Int)], .bool true, .bool false, .bool false, undef, .agg #[.int .u64 (a : Int), .int .u64 (b : Int)], .agg #[.int .u64 (a : Int), .int .u64 (b : Int)], .agg #[.int .u64 (c : Int), .int .u64 (d : Int)], .agg #[.int .u64 (n1 : Int), .int .u64 (m1 : Int)], .agg #[.int .u64 (c : Int), .int .u64 (d : Int)], .agg #[.int .u64 (n2 : Int), .int .u64 (m2 : Int)], .bool true, .bool false, .bool false, .agg #[.int .u64 (a : Int), .int .u64 (b : Int)], .agg #[.int .u64 (n3 : Int), .int .u64 (m3 : Int)], .agg #[.int .u64 (a : Int), .int .u64 (b : Int)], .agg #[.int .u64 (a : Int), .int .u64 (b : Int)], .agg #[.int .u64 (n4 : Int), .int .u64 (m4 : Int)], .bool true, .bool false, .bool false, .agg #[.int .u64 (c : Int), .int .u64 (d : Int)], dz, .bool true, undef, undef, undef, undef, undef, undef, undef, undef, undef, undef, undef, undef, undef, undef, undef, undef, undef, undef, undef, undef, undef, undef, undef, undef, undef, undef, undef, undef], defers := [] } _
      refine wpAny_take (i := 3) (v := .bool false) rfl (by kernel_rfl) (by kernel_rfl) (by kernel_rfl) (fun _ _ _ h => h) (Or.inl ⟨by rfl, by intro w; first | (go_simp; done) | (go_simp; with_reducible rfl)⟩) ?_
      change wpAny _ _ _ _ _ _ { tmps := #[.agg #[.int .u64 (a : Int), .int .u64 (b : Int)], .agg #[.int .u64 (c : Int), .int .u64 (d : Int)], .pointer (some ⟨B, 0, none⟩), .pointer (some ⟨B + 1, 0, none⟩), .bool false, undef, undef, .agg #[.int .u64 (a : Int), .int .u64 (b : Int)], .bool true, .bool false, .bool false, .agg #[.int .u64 (c : Int), .int .u64 (d : Int)], .bool true, .bool false, .bool false, undef, .agg #[.int .u64 (a : Int), .int .u64 (b : Int)], .agg #[.int .u64 (a : Int), .int .u64 (b : Int)], .agg #[.int .u64 (c : Int), .int .u64 (d : Int)], .agg #[.int .u64 (n1 : Int), .int .u64 (m1 : Int)], .agg #[.int .u64 (c : Int), .int .u64 (d : Int)], .agg #[.int .u64 (n2 : Int), .int .u64 (m2 : Int)], .bool true, .bool false, .bool false, .agg #[.int .u64 (a : Int), .int .u64 (b : Int)], .agg #[.int .u64 (n3 : Int), .int .u64 (m3 : Int)], .agg #[.int .u64 (a : Int), .int .u64 (b : Int)], .agg #[.int .u64 (a : Int), .int .u64 (b : Int)], .agg #[.int .u64 (n4 : Int), .int .u64 (m4 : Int)], .bool true, .bool false, .bool false, .agg #[.int .u64 (c : Int), .int .u64 (d : Int)], dz, .bool true, .bool false, undef, undef, undef, undef, undef, undef, undef, undef, undef, undef, undef, undef, undef, undef, undef, undef, undef, undef, undef, undef, undef, undef, undef, undef, undef, undef, undef], defers := [] } _
      refine wpAny_take (i := 4) (v := .bool false) rfl (by kernel_rfl) (by kernel_rfl) (by kernel_rfl) (fun _ _ _ h => h) (Or.inl ⟨by rfl, by intro w; first | (go_simp; done) | (go_simp; with_reducible rfl)⟩) ?_
      change wpAny _ _ _ _ _ _ { tmps := #[.agg #[.int .u64 (a : Int), .int .u64 (b : Int)], .agg #[.int .u64 (c : Int), .int .u64 (d : Int)], .pointer (some ⟨B, 0, none⟩), .pointer (some ⟨B + 1, 0, none⟩), .bool false, undef, undef, .agg #[.int .u64 (a : Int), .int .u64 (b : Int)], .bool true, .bool false, .bool false, .agg #[.int .u64 (c : Int), .int .u64 (d : Int)], .bool true, .bool false, .bool false, undef, .agg #[.int .u64 (a : Int), .int .u64 (b : Int)], .agg #[.int .u64 (a : Int), .int .u64 (b : Int)], .agg #[.int .u64 (c : Int), .int .u64 (d : Int)], .agg #[.int .u64 (n1 : Int), .int .u64 (m1 : Int)], .agg #[.int .u64 (c : Int), .int .u64 (d : Int)], .agg #[.int .u64 (n2 : Int), .int .u64 (m2 : Int)], .bool true, .bool false, .bool false, .agg #[.int .u64 (a : Int), .int .u64 (b : Int)], .agg #[.int .u64 (n3 : Int), .int .u64 (m3 : Int)], .agg #[.int .u64 (a : Int), .int .u64 (b : Int)], .agg #[.int .u64 (a : Int), .int .u64 (b : Int)], .agg #[.int .u64 (n4 : Int), .int .u64 (m4 : Int)], .bool true, .bool false, .bool false, .agg #[.int .u64 (c : Int), .int .u64 (d : Int)], dz, .bool true, .bool false, .bool false, undef, undef, undef, undef, undef, undef, undef, undef, undef, undef, undef, undef, undef, undef, undef, undef, undef, undef, undef, undef, undef, undef, undef, undef, undef, undef], defers := [] } _
      refine wpAny_take (i := 5) (v := undef) rfl (by kernel_rfl) (by kernel_rfl) (by kernel_rfl) (fun _ _ _ h => h) (Or.inr ⟨by rfl, rfl⟩) ?_
      change wpAny _ _ _ _ _ _ { tmps := #[.agg #[.int .u64 (a : Int), .int .u64 (b : Int)], .agg #[.int .u64 (c : Int), .int .u64 (d : Int)], .pointer (some ⟨B, 0, none⟩), .pointer (some ⟨B + 1, 0, none⟩), .bool false, undef, undef, .agg #[.int .u64 (a : Int), .int .u64 (b : Int)], .bool true, .bool false, .bool false, .agg #[.int .u64 (c : Int), .int .u64 (d : Int)], .bool true, .bool false, .bool false, undef, .agg #[.int .u64 (a : Int), .int .u64 (b : Int)], .agg #[.int .u64 (a : Int), .int .u64 (b : Int)], .agg #[.int .u64 (c : Int), .int .u64 (d : Int)], .agg #[.int .u64 (n1 : Int), .int .u64 (m1 : Int)], .agg #[.int .u64 (c : Int), .int .u64 (d : Int)], .agg #[.int .u64 (n2 : Int), .int .u64 (m2 : Int)], .bool true, .bool false, .bool false, .agg #[.int .u64 (a : Int), .int .u64 (b : Int)], .agg #[.int .u64 (n3 : Int), .int .u64 (m3 : Int)], .agg #[.int .u64 (a : Int), .int .u64 (b : Int)], .agg #[.int .u64 (a : Int), .int .u64 (b : Int)], .agg #[.int .u64 (n4 : Int), .int .u64 (m4 : Int)], .bool true, .bool false, .bool false, .agg #[.int .u64 (c : Int), .int .u64 (d : Int)], dz, .bool true, .bool false, .bool false, undef, undef, undef, undef, undef, undef, undef, undef, undef, undef, undef, undef, undef, undef, undef, undef, undef, undef, undef, undef, undef, undef, undef, undef, undef, undef], defers := [] } _
      refine wpAny_take (i := 6) (v := undef) rfl (by kernel_rfl) (by kernel_rfl) (by kernel_rfl) (fun _ _ _ h => h) (Or.inr ⟨by rfl, rfl⟩) ?_
      change wpAny _ _ _ _ _ _ { tmps := #[.agg #[.int .u64 (a : Int), .int .u64 (b : Int)], .agg #[.int .u64 (c : Int), .int .u64 (d : Int)], .pointer (some ⟨B, 0, none⟩), .pointer (some ⟨B + 1, 0, none⟩), .bool false, undef, undef, .agg #[.int .u64 (a : Int), .int .u64 (b : Int)], .bool true, .bool false, .bool false, .agg #[.int .u64 (c : Int), .int .u64 (d : Int)], .bool true, .bool false, .bool false, undef, .agg #[.int .u64 (a : Int), .int .u64 (b : Int)], .agg #[.int .u64 (a : Int), .int .u64 (b : Int)], .agg #[.int .u64 (c : Int), .int .u64 (d : Int)], .agg #[.int .u64 (n1 : Int), .int .u64 (m1 : Int)], .agg #[.int .u64 (c : Int), .int .u64 (d : Int)], .agg #[.int .u64 (n2 : Int), .int .u64 (m2 : Int)], .bool true, .bool false, .bool false, .agg #[.int .u64 (a : Int), .int .u64 (b : Int)], .agg #[.int .u64 (n3 : Int), .int .u64 (m3 : Int)], .agg #[.int .u64 (a : Int), .int .u64 (b : Int)], .agg #[.int .u64 (a : Int), .int .u64 (b : Int)], .agg #[.int .u64 (n4 : Int), .int .u64 (m4 : Int)], .bool true, .bool false, .bool false, .agg #[.int .u64 (c : Int), .int .u64 (d : Int)], dz, .bool true, .bool false, .bool false, undef, undef, undef, undef, undef, undef, undef, undef, undef, undef, undef, undef, undef, undef, undef, undef, undef, undef, undef, undef, undef, undef, undef, undef, undef, undef], defers := [] } _
      refine wpAny_take (i := 7) (v := undef) rfl (by kernel_rfl) (by kernel_rfl) (by kernel_rfl) (fun _ _ _ h => h) (Or.inr ⟨by rfl, rfl⟩) ?_
      change wpAny _ _ _ _ _ _ { tmps := #[.agg #[.int .u64 (a : Int), .int .u64 (b : Int)], .agg #[.int .u64 (c : Int), .int .u64 (d : Int)], .pointer (some ⟨B, 0, none⟩), .pointer (some ⟨B + 1, 0, none⟩), .bool false, undef, undef, .agg #[.int .u64 (a : Int), .int .u64 (b : Int)], .bool true, .bool false, .bool false, .agg #[.int .u64 (c : Int), .int .u64 (d : Int)], .bool true, .bool false, .bool false, undef, .agg #[.int .u64 (a : Int), .int .u64 (b : Int)], .agg #[.int .u64 (a : Int), .int .u64 (b : Int)], .agg #[.int .u64 (c : Int), .int .u64 (d : Int)], .agg #[.int .u64 (n1 : Int), .int .u64 (m1 : Int)], .agg #[.int .u64 (c : Int), .int .u64 (d : Int)], .agg #[.int .u64 (n2 : Int), .int .u64 (m2 : Int)], .bool true, .bool false, .bool false, .agg #[.int .u64 (a : Int), .int .u64 (b : Int)], .agg #[.int .u64 (n3 : Int), .int .u64 (m3 : Int)], .agg #[.int .u64 (a : Int), .int .u64 (b : Int)], .agg #[.int .u64 (a : Int), .int .u64 (b : Int)], .agg #[.int .u64 (n4 : Int), .int .u64 (m4 : Int)], .bool true, .bool false, .bool false, .agg #[.int .u64 (c : Int), .int .u64 (d : Int)], dz, .bool true, .bool false, .bool false, undef, undef, undef, undef, undef, undef, undef, undef, undef, undef, undef, undef, undef, undef, undef, undef, undef, undef, undef, undef, undef, undef, undef, undef, undef, undef], defers := [] } _
      refine wpAny_take (i := 8) (v := undef) rfl (by kernel_rfl) (by kernel_rfl) (by kernel_rfl) (fun _ _ _ h => h) (Or.inr ⟨by rfl, rfl⟩) ?_
      change wpAny _ _ _ _ _ _ { tmps := #[.agg #[.int .u64 (a : Int), .int .u64 (b : Int)], .agg #[.int .u64 (c : Int), .int .u64 (d : Int)], .pointer (some ⟨B, 0, none⟩), .pointer (some ⟨B + 1, 0, none⟩), .bool false, undef, undef, .agg #[.int .u64 (a : Int), .int .u64 (b : Int)], .bool true, .bool false, .bool false, .agg #[.int .u64 (c : Int), .int .u64 (d : Int)], .bool true, .bool false, .bool false, undef, .agg #[.int .u64 (a : Int), .int .u64 (b : Int)], .agg #[.int .u64 (a : Int), .int .u64 (b : Int)], .agg #[.int .u64 (c : Int), .int .u64 (d : Int)], .agg #[.int .u64 (n1 : Int), .int .u64 (m1 : Int)], .agg #[.int .u64 (c : Int), .int .u64 (d : Int)], .agg #[.int .u64 (n2 : Int), .int .u64 (m2 : Int)], .bool true, .bool false, .bool false, .agg #[.int .u64 (a : Int), .int .u64 (b : Int)], .agg #[.int .u64 (n3 : Int), .int .u64 (m3 : Int)], .agg #[.int .u64 (a : Int), .int .u64 (b : Int)], .agg #[.int .u64 (a : Int), .int .u64 (b : Int)], .agg #[.int .u64 (n4 : Int), .int .u64 (m4 : Int)], .bool true, .bool false, .bool false, .agg #[.int .u64 (c : Int), .int .u64 (d : Int)], dz, .bool true, .bool false, .bool false, undef, undef, undef, undef, undef, undef, undef, undef, undef, undef, undef, undef, undef, undef, undef, undef, undef, undef, undef, undef, undef, undef, undef, undef, undef, undef], defers := [] } _
      refine wpAny_take (i := 9) (v := undef) rfl (by kernel_rfl) (by kernel_rfl) (by kernel_rfl) (fun _ _ _ h => h) (Or.inr ⟨by rfl, rfl⟩) ?_
      change wpAny _ _ _ _ _ _ { tmps := #[.agg #[.int .u64 (a : Int), .int .u64 (b : Int)], .agg #[.int .u64 (c : Int), .int .u64 (d : Int)], .pointer (some ⟨B, 0, none⟩), .pointer (some ⟨B + 1, 0, none⟩), .bool false, undef, undef, .agg #[.int .u64 (a : Int), .int .u64 (b : Int)], .bool true, .bool false, .bool false, .agg #[.int .u64 (c : Int), .int .u64 (d : Int)], .bool true, .bool false, .bool false, undef, .agg #[.int .u64 (a : Int), .int .u64 (b : Int)], .agg #[.int .u64 (a : Int), .int .u64 (b : Int)], .agg #[.int .u64 (c : Int), .int .u64 (d : Int)], .agg #[.int .u64 (n1 : Int), .int .u64 (m1 : Int)], .agg #[.int .u64 (c : Int), .int .u64 (d : Int)], .agg #[.int .u64 (n2 : Int), .int .u64 (m2 : Int)], .bool true, .bool false, .bool false, .agg #[.int .u64 (a : Int), .int .u64 (b : Int)], .agg #[.int .u64 (n3 : Int), .int .u64 (m3 : Int)], .agg #[.int .u64 (a : Int), .int .u64 (b : Int)], .agg #[.int .u64 (a : Int), .int .u64 (b : Int)], .agg #[.int .u64 (n4 : Int), .int .u64 (m4 : Int)], .bool true, .bool false, .bool false, .agg #[.int .u64 (c : Int), .int .u64 (d : Int)], dz, .bool true, .bool false, .bool false, undef, undef, undef, undef, undef, undef, undef, undef, undef, undef, undef, undef, undef, undef, undef, undef, undef, undef, undef, undef, undef, undef, undef, undef, undef, undef], defers := [] } _
      refine wpAny_take (i := 10) (v := undef) rfl (by kernel_rfl) (by kernel_rfl) (by kernel_rfl) (fun _ _ _ h => h) (Or.inr ⟨by rfl, rfl⟩) ?_
      change wpAny _ _ _ _ _ _ { tmps := #[.agg #[.int .u64 (a : Int), .int .u64 (b : Int)], .agg #[.int .u64 (c : Int), .int .u64 (d : Int)], .pointer (some ⟨B, 0, none⟩), .pointer (some ⟨B + 1, 0, none⟩), .bool false, undef, undef, .agg #[.int .u64 (a : Int), .int .u64 (b : Int)], .bool true, .bool false, .bool false, .agg #[.int .u64 (c : Int), .int .u64 (d : Int)], .bool true, .bool false, .bool false, undef, .agg #[.int .u64 (a : Int), .int .u64 (b : Int)], .agg #[.int .u64 (a : Int), .int .u64 (b : Int)], .agg #[.int .u64 (c : Int), .int .u64 (d : Int)], .agg #[.int .u64 (n1 : Int), .int .u64 (m1 : Int)], .agg #[.int .u64 (c : Int), .int .u64 (d : Int)], .agg #[.int .u64 (n2 : Int), .int .u64 (m2 : Int)], .bool true, .bool false, .bool false, .agg #[.int .u64 (a : Int), .int .u64 (b : Int)], .agg #[.int .u64 (n3 : Int), .int .u64 (m3 : Int)], .agg #[.int .u64 (a : Int), .int .u64 (b : Int)], .agg #[.int .u64 (a : Int), .int .u64 (b : Int)], .agg #[.int .u64 (n4 : Int), .int .u64 (m4 : Int)], .bool true, .bool false, .bool false, .agg #[.int .u64 (c : Int), .int .u64 (d : Int)], dz, .bool true, .bool false, .bool false, undef, undef, undef, undef, undef, undef, undef, undef, undef, undef, undef, undef, undef, undef, undef, undef, undef, undef, undef, undef, undef, undef, undef, undef, undef, undef], defers := [] } _
      refine wpAny_take (i := 11) (v := undef) rfl (by kernel_rfl) (by kernel_rfl) (by kernel_rfl) (fun _ _ _ h => h) (Or.inr ⟨by rfl, rfl⟩) ?_
      change wpAny _ _ _ _ _ _ { tmps := #[.agg #[.int .u64 (a : Int), .int .u64 (b : Int)], .agg #[.int .u64 (c : Int), .int .u64 (d : Int)], .pointer (some ⟨B, 0, none⟩), .pointer (some ⟨B + 1, 0, none⟩), .bool false, undef, undef, .agg #[.int .u64 (a : Int), .int .u64 (b : Int)], .bool true, .bool false, .bool false, .agg #[.int .u64 (c : Int), .int .u64 (d : Int)], .bool true, .bool false, .bool false, undef, .agg #[.int .u64 (a : Int), .int .u64 (b : Int)], .agg #[.int .u64 (a : Int), .int .u64 (b : Int)], .agg #[.int .u64 (c : Int), .int .u64 (d : Int)], .agg #[.int .u64 (n1 : Int), .int .u64 (m1 : Int)], .agg #[.int .u64 (c : Int), .int .u64 (d : Int)], .agg #[.int .u64 (n2 : Int), .int .u64 (m2 : Int)], .bool true, .bool false, .bool false, .agg #[.int .u64 (a : Int), .int .u64 (b : Int)], .agg #[.int .u64 (n3 : Int), .int .u64 (m3 : Int)], .agg #[.int .u64 (a : Int), .int .u64 (b : Int)], .agg #[.int .u64 (a : Int), .int .u64 (b : Int)], .agg #[.int .u64 (n4 : Int), .int .u64 (m4 : Int)], .bool true, .bool false, .bool false, .agg #[.int .u64 (c : Int), .int .u64 (d : Int)], dz, .bool true, .bool false, .bool false, undef, undef, undef, undef, undef, undef, undef, undef, undef, undef, undef, undef, undef, undef, undef, undef, undef, undef, undef, undef, undef, undef, undef, undef, undef, undef], defers := [] } _
      refine wpAny_take (i := 12) (v := undef) rfl (by kernel_rfl) (by kernel_rfl) (by kernel_rfl) (fun _ _ _ h => h) (Or.inr ⟨by rfl, rfl⟩) ?_
      change wpAny _ _ _ _ _ _ { tmps := #[.agg #[.int .u64 (a : Int), .int .u64 (b : Int)], .agg #[.int .u64 (c : Int), .int .u64 (d : Int)], .pointer (some ⟨B, 0, none⟩), .pointer (some ⟨B + 1, 0, none⟩), .bool false, undef, undef, .agg #[.int .u64 (a : Int), .int .u64 (b : Int)], .bool true, .bool false, .bool false, .agg #[.int .u64 (c : Int), .int .u64 (d : Int)], .bool true, .bool false, .bool false, undef, .agg #[.int .u64 (a : Int), .int .u64 (b : Int)], .agg #[.int .u64 (a : Int), .int .u64 (b : Int)], .agg #[.int .u64 (c : Int), .int .u64 (d : Int)], .agg #[.int .u64 (n1 : Int), .int .u64 (m1 : Int)], .agg #[.int .u64 (c : Int), .int .u64 (d : Int)], .agg #[.int .u64 (n2 : Int), .int .u64 (m2 : Int)], .bool true, .bool false, .bool false, .agg #[.int .u64 (a : Int), .int .u64 (b : Int)], .agg #[.int .u64 (n3 : Int), .int .u64 (m3 : Int)], .agg #[.int .u64 (a : Int), .int .u64 (b : Int)], .agg #[.int .u64 (a : Int), .int .u64 (b : Int)], .agg #[.int .u64 (n4 : Int), .int .u64 (m4 : Int)], .bool true, .bool false, .bool false, .agg #[.int .u64 (c : Int), .int .u64 (d : Int)], dz, .bool true, .bool false, .bool false, undef, undef, undef, undef, undef, undef, undef, undef, undef, undef, undef, undef, undef, undef, undef, undef, undef, undef, undef, undef, undef, undef, undef, undef, undef, undef], defers := [] } _
      refine wpAny_take (i := 13) (v := .bool false) rfl (by kernel_rfl) (by kernel_rfl) (by kernel_rfl) (fun _ _ _ h => h) (Or.inl ⟨by rfl, by intro w; first | (go_simp; done) | (go_simp; with_reducible rfl)⟩) ?_
      change wpAny _ _ _ _ _ _ { tmps := #[.agg #[.int .u64 (a : Int), .int .u64 (b : Int)], .agg #[.int .u64 (c : Int), .int .u64 (d : Int)], .pointer (some ⟨B, 0, none⟩), .pointer (some ⟨B + 1, 0, none⟩), .bool false, undef, undef, .agg #[.int .u64 (a : Int), .int .u64 (b : Int)], .bool true, .bool false, .bool false, .agg #[.int .u64 (c : Int), .int .u64 (d : Int)], .bool true, .bool false, .bool false, undef, .agg #[.int .u64 (a : Int), .int .u64 (b : Int)], .agg #[.int .u64 (a : Int), .int .u64 (b : Int)], .agg #[.int .u64 (c : Int), .int .u64 (d : Int)], .agg #[.int .u64 (n1 : Int), .int .u64 (m1 : Int)], .agg #[.int .u64 (c : Int), .int .u64 (d : Int)], .agg #[.int .u64 (n2 : Int), .int .u64 (m2 : Int)], .bool true, .bool false, .bool false, .agg #[.int .u64 (a : Int), .int .u64 (b : Int)], .agg #[.int .u64 (n3 : Int), .int .u64 (m3 : Int)], .agg #[.int .u64 (a : Int), .int .u64 (b : Int)], .agg #[.int .u64 (a : Int), .int .u64 (b : Int)], .agg #[.int .u64 (n4 : Int), .int .u64 (m4 : Int)], .bool true, .bool false, .bool false, .agg #[.int .u64 (c : Int), .int .u64 (d : Int)], dz, .bool true, .bool false, .bool false, undef, undef, undef, undef, undef, undef, undef, undef, .bool false, undef, undef, undef, undef, undef, undef, undef, undef, undef, undef, undef, undef, undef, undef, undef, undef, undef], defers := [] } _
      refine wpAny_done (by kernel_rfl) ?_ _
      clear a0 a1 a2 a3
      obtain ⟨⟨a0, a1⟩, a2, a3⟩ := HC.out _ st
      go_wp2_with fail
      refine (CC.out _).mono ?_
      rintro r w7 ⟨rfl, hE⟩
      have st : Ext V w7 := Ext.trans st hE
      clear hE
      by_cases hcs : 0 ≤ cs
      · have SR := Lib.hid (S7.out hcs)
        have KR := Lib.hid (K7.out hcs)
        clear S7 K7
        clear a0 a1 a2 a3
        obtain ⟨⟨a0, a1⟩, a2, a3⟩ := HC.out _ st
        go_upto_region 8 with fail
        have st : Ext V _ := st.drew
        go_region_held3 (fun wx => (wx.cell? ⟨B, 0, none⟩ = some (.int .u64 (a : Int)) ∧ wx.cell? ⟨B, 1, none⟩ = some (.int .u64 (b : Int))) ∧ (wx.cell? ⟨B + 1, 0, none⟩ = some (.int .u64 (c : Int)) ∧ wx.cell? ⟨B + 1, 1, none⟩ = some (.int .u64 (d : Int))))
          (first | exact HC.out _ (by assumption))
          (first
            | (go_at_call 9; (with_reducible refine (K3.out _).mono ?_); rintro r wn ⟨rfl, hE⟩; have st : Ext V wn := Ext.trans (by assumption) hE; clear hE)
            | (go_at_call 15; (with_reducible refine (KR.out _).mono ?_); rintro r wn ⟨rfl, hE⟩; have st : Ext V wn := Ext.trans (by assumption) hE; clear hE)
            | (go_at_call 6; (with_reducible refine (SR.out _).mono ?_); rintro r wn ⟨rfl, hE⟩; have st : Ext V wn := Ext.trans (by assumption) hE; clear hE)
          )
        clear a0 a1 a2 a3
        go_wp2_with fail
        refine (CA.out _).mono ?_
        rintro r w9 ⟨rfl, hE⟩
        have HF := Lib.hid (HB.out.trans (Ext.trans st hE))
        go_wp2
        go_ret
        exact ⟨rfl, HF.out⟩
      · obtain ⟨⟨a0, a1⟩, a2, a3⟩ := HC.out _ st
        have hcs2 : decide (0 ≤ cs) = false := decide_eq_false hcs
        go_upto_region 8 with fail
        go_quiet (fail)
        have st : Ext V _ := below_drewN st nq
        clear a0 a1 a2 a3
        go_wp2_with fail
        refine (CA.out _).mono ?_
        rintro r w9 ⟨rfl, hE⟩
        have HF := Lib.hid (HB.out.trans (Ext.trans st hE))
        go_wp2
        go_ret
        exact ⟨rfl, HF.out⟩
    · go_simp
      go_wp2_with (go_at_call 12; (with_reducible refine (KF.out _ (HTV.out _ (by assumption))).mono ?_); rintro r wn ⟨dz, rfl, hz, hE⟩; have st : Ext V wn := Ext.trans (by assumption) hE; have hz := hz.dg; rw [dmk_zero] at hz; clear hE a0 a1 a2 a3; obtain ⟨⟨a0, a1⟩, a2, a3⟩ := HC.out _ st)
      first | (refine hK _ _ ?_; clear hK K) | skip
      change wpAny _ _ _ _ _ _ { tmps := #[.agg #[.int .u64 (a : Int), .int .u64 (b : Int)], .agg #[.int .u64 (c : Int), .int .u64 (d : Int)], .pointer (some ⟨B, 0, none⟩), .pointer (some ⟨B + 1, 0, none⟩), .bool false, undef, undef, .agg #[.int .u64 (a : Int), .int .u64 (b : Int)], .bool true, .bool false, .bool false, .agg #[.int .u64 (c : Int), .int .u64 (d : Int)], .bool true, .bool false, .bool false, undef, .agg #[.int .u64 (a : Int), .int .u64 (b : Int)], .agg #[.int .u64 (a : Int), .int .u64 (b : Int)], .agg #[.int .u64 (c : Int), .int .u64 (d : Int)], .agg #[.int .u64 (n1 : Int), .int .u64 (m1 : Int)], .agg #[.int .u64 (c : Int), .int .u64 (d : Int)], .agg #[.int .u64 (n2 : Int), .int .u64 (m2 : Int)], .bool true, .bool false, .bool false, .agg #[.int .u64 (a : Int), .int .u64 (b : Int)], .agg #[.int .u64 (n3 : Int), .int .u64 (m3 : Int)], .agg #[.int .u64 (a : Int), .int .u64 (b : Int)], .agg #[.int .u64 (a : Int), .int .u64 (b : Int)], .agg #[.int .u64 (n4 : Int), .int .u64 (m4 : Int)], .bool true, .bool false, .bool false, undef, dz, undef, undef, undef, undef, undef, undef, undef, undef, undef, undef, undef, undef, undef, undef, undef, undef, undef, undef, undef, undef, undef, undef, undef, undef, undef, undef, undef, undef, undef], defers := [] } _
      refine wpAny_ready (rs := [0]) (by kernel_rfl) (by simp) ?_
      refine AllReady.cons rfl (fun K hK => ?_) AllReady.nil
      go_simp
      refine hK _ _ ?_
      clear hK K
      change wpAny _ _ _ _ _ _ { tmps := #[.agg #[.int .u64 (a : Int), .int .u64 (b : Int)], .agg #[.int .u64 (c : Int), .int .u64 (d : Int)], .pointer (some ⟨B, 0, none⟩), .pointer (some ⟨B + 1, 0, none⟩), .bool false, undef, undef, .agg #[.int .u64 (a : Int), .int .u64 (b : Int)], .bool true, .bool false, .bool false, .agg #[.int .u64 (c : Int), .int .u64 (d : Int)], .bool true, .bool false, .bool false, undef, .agg #[.int .u64 (a : Int), .int .u64 (b : Int)], .agg #[.int .u64 (a : Int), .int .u64 (b : Int)], .agg #[.int .u64 (c : Int), .int .u64 (d : Int)], .agg #[.int .u64 (n1 : Int), .int .u64 (m1 : Int)], .agg #[.int .u64 (c : Int), .int .u64 (d : Int)], .agg #[.int .u64 (n2 : Int), .int .u64 (m2 : Int)], .bool true, .bool false, .bool false, .agg #[.int .u64 (a : Int), .int .u64 (b : Int)], .agg #[.int .u64 (n3 : Int), .int .u64 (m3 : Int)], .agg #[.int .u64 (a : Int), .int .u64 (b : Int)], .agg #[.int .u64 (a : Int), .int .u64 (b : Int)], .agg #[.int .u64 (n4 : Int), .int .u64 (m4 : Int)], .bool true, .bool false, .bool false, .agg #[.int .u64 (c : Int), .int .u64 (d : Int)], dz, undef, undef, undef, undef, undef, undef, undef, undef, undef, undef, undef, undef, undef, undef, undef, undef, undef, undef, undef, undef, undef, undef, undef, undef, undef, undef, undef, undef, undef], defers := [] } _
      refine wpAny_ready (rs := [2]) (by kernel_rfl) (by simp) ?_
      refine AllReady.cons rfl (fun K hK => ?_) AllReady.nil
      go_simp
      go_wp2_with (go_at_call 11; (with_reducible refine (KC.out _ _ (by exact hz) (HTV.out _ (by assumption))).mono ?_); rintro r wk ⟨rfl, hE⟩; have st : Ext V wk := Ext.trans (by assumption) hE; clear hE a0 a1 a2 a3; obtain ⟨⟨a0, a1⟩, a2, a3⟩ := HC.out _ st)
      first | (refine hK _ _ ?_; clear hK K) | skip
      change wpAny _ _ _ _ _ _ { tmps := #[.agg #[.int .u64 (a : Int), .int .u64 (b : Int)], .agg #[.int .u64 (c : Int), .int .u64 (d : Int)], .pointer (some ⟨B, 0, none⟩), .pointer (some ⟨B + 1, 0, none⟩), .bool false, undef, undef, .agg #[.int .u64 (a : Int), .int .u64 (b : Int)], .bool true, .bool false, .bool false, .agg #[.int .u64 (c : Int), .int .u64 (d : Int)], .bool true, .bool false, .bool false, undef, .agg #[.int .u64 (a : Int), .int .u64 (b : Int)], .agg #[.int .u64 (a : Int), .int .u64 (b : Int)], .agg #[.int .u64 (c : Int), .int .u64 (d : Int)], .agg #[.int .u64 (n1 : Int), .int .u64 (m1 : Int)], .agg #[.int .u64 (c : Int), .int .u64 (d : Int)], .agg #[.int .u64 (n2 : Int), .int .u64 (m2 : Int)], .bool true, .bool false, .bool false, .agg #[.int .u64 (a : Int), .int .u64 (b : Int)], .agg #[.int .u64 (n3 : Int), .int .u64 (m3 : Int)], .agg #[.int .u64 (a : Int), .int .u64 (b : Int)], .agg #[.int .u64 (a : Int), .int .u64 (b : Int)], .agg #[.int .u64 (n4 : Int), .int .u64 (m4 : Int)], .bool true, .bool false, .bool false, .agg #[.int .u64 (c : Int), .int .u64 (d : Int)], dz, .bool true, undef, undef, undef, undef, undef, undef, undef, undef, undef, undef, undef, undef, undef, undef, undef, undef, undef, undef, undef, undef, undef, undef, undef, undef, undef, undef, undef, undef], defers := [] } _
      refine wpAny_take (i := 3) (v := .bool false) rfl (by kernel_rfl) (by kernel_rfl) (by kernel_rfl) (fun _ _ _ h => h) (Or.inl ⟨by rfl, by intro w; first | (go_simp; done) | (go_simp; with_reducible rfl)⟩) ?_
      change wpAny _ _ _ _ _ _ { tmps := #[.agg #[.int .u64 (a : Int), .int .u64 (b : Int)], .agg #[.int .u64 (c : Int), .int .u64 (d : Int)], .pointer (some ⟨B, 0, none⟩), .pointer (some ⟨B + 1, 0, none⟩), .bool false, undef, undef, .agg #[.int .u64 (a : Int), .int .u64 (b : Int)], .bool true, .bool false, .bool false, .agg #[.int .u64 (c : Int), .int .u64 (d : Int)], .bool true, .bool false, .bool false, undef, .agg #[.int .u64 (a : Int), .int .u64 (b : Int)], .agg #[.int .u64 (a : Int), .int .u64 (b : Int)], .agg #[.int .u64 (c : Int), .int .u64 (d : Int)], .agg #[.int .u64 (n1 : Int), .int .u64 (m1 : Int)], .agg #[.int .u64 (c : Int), .int .u64 (d : Int)], .agg #[.int .u64 (n2 : Int), .int .u64 (m2 : Int)], .bool true, .bool false, .bool false, .agg #[.int .u64 (a : Int), .int .u64 (b : Int)], .agg #[.int .u64 (n3 : Int), .int .u64 (m3 : Int)], .agg #[.int .u64 (a : Int), .int .u64 (b : Int)], .agg #[.int .u64 (a : Int), .int .u64 (b : Int)], .agg #[.int .u64 (n4 : Int), .int .u64 (m4 : Int)], .bool true, .bool false, .bool false, .agg #[.int .u64 (c : Int), .int .u64 (d : Int)], dz, .bool true, .bool false, undef, undef, undef, undef, undef, undef, undef, undef, undef, undef, undef, undef, undef, undef, undef, undef, undef, undef, undef, undef, undef, undef, undef, undef, undef, undef, undef], defers := [] } _
      refine wpAny_take (i := 4) (v := .bool false) rfl (by kernel_rfl) (by kernel_rfl) (by kernel_rfl) (fun _ _ _ h => h) (Or.inl ⟨by rfl, by intro w; first | (go_simp; done) | (go_simp; with_reducible rfl)⟩) ?_
      change wpAny _ _ _ _ _ _ { tmps := #[.agg #[.int .u64 (a : Int), .int .u64 (b : Int)], .agg #[.int .u64 (c : Int), .int .u64 (d : Int)], .pointer (some ⟨B, 0, none⟩), .pointer (some ⟨B + 1, 0, none⟩), .bool false, undef, undef, .agg #[.int .u64 (a : Int), .int .u64 (b : Int)], .bool true, .bool false, .bool false, .agg #[.int .u64 (c : Int), .int .u64 (d : Int)], .bool true, .bool false, .bool false, undef, .agg #[.int .u64 (a : Int), .int .u64 (b : Int)], .agg #[.int .u64 (a : Int), .int .u64 (b : Int)], .agg #[.int .u64 (c : Int), .int .u64 (d : Int)], .agg #[.int .u64 (n1 : Int), .int .u64 (m1 : Int)], .agg #[.int .u64 (c : Int), .int .u64 (d : Int)], .agg #[.int .u64 (n2 : Int), .int .u64 (m2 : Int)], .bool true, .bool false, .bool false, .agg #[.int .u64 (a : Int), .int .u64 (b : Int)], .agg #[.int .u64 (n3 : Int), .int .u64 (m3 : Int)], .agg #[.int .u64 (a : Int), .int .u64 (b : Int)], .agg #[.int .u64 (a : Int), .int .u64 (b : Int)], .agg #[.int .u64 (n4 : Int), .int .u64 (m4 : Int)], .bool true, .bool false, .bool false, .agg #[.int .u64 (c : Int), .int .u64 (d : Int)], dz, .bool true, .bool false, .bool false, undef, undef, undef, undef, undef, undef, undef, undef, undef, undef, undef, undef, undef, undef, undef, undef, undef, undef, undef, undef, undef, undef, undef, undef, undef, undef], defers := [] } _
      refine wpAny_take (i := 5) (v := undef) rfl (by kernel_rfl) (by kernel_rfl) (by kernel_rfl) (fun _ _ _ h => h) (Or.inr ⟨by rfl, rfl⟩) ?_
      change wpAny _ _ _ _ _ _ { tmps := #[.agg #[.int .u64 (a : Int), .int .u64 (b : Int)], .agg #[.int .u64 (c : Int), .int .u64 (d : Int)], .pointer (some ⟨B, 0, none⟩), .pointer (some ⟨B + 1, 0, none⟩), .bool false, undef, undef, .agg #[.int .u64 (a : Int), .int .u64 (b : Int)], .bool true, .bool false, .bool false, .agg #[.int .u64 (c : Int), .int .u64 (d : Int)], .bool true, .bool false, .bool false, undef, .agg #[.int .u64 (a : Int), .int .u64 (b : Int)], .agg #[.int .u64 (a : Int), .int .u64 (b : Int)], .agg #[.int .u64 (c : Int), .int .u64 (d : Int)], .agg #[.int .u64 (n1 : Int), .int .u64 (m1 : Int)], .agg #[.int .u64 (c : Int), .int .u64 (d : Int)], .agg #[.int .u64 (n2 : Int), .int .u64 (m2 : Int)], .bool true, .bool false, .bool false, .agg #[.int .u64 (a : Int), .int .u64 (b : Int)], .agg #[.int .u64 (n3 : Int), .int .u64 (m3 : Int)], .agg #[.int .u64 (a : Int), .int .u64 (b : Int)], .agg #[.int .u64 (a : Int), .int .u64 (b : Int)], .agg #[.int .u64 (n4 : Int), .int .u64 (m4 : Int)], .bool true, .bool false, .bool false, .agg #[.int .u64 (c : Int), .int .u64 (d : Int)], dz, .bool true, .bool false, .bool false, undef, undef, undef, undef, undef, undef, undef, undef, undef, undef, undef, undef, undef, undef, undef, undef, undef, undef, undef, undef, undef, undef, undef, undef, undef, undef], defers := [] } _
      refine wpAny_take (i := 6) (v := undef) rfl (by kernel_rfl) (by kernel_rfl) (by kernel_rfl) (fun _ _ _ h => h) (Or.inr ⟨by rfl, rfl⟩) ?_
      change wpAny _ _ _ _ _ _ { tmps := #[.agg #[.int .u64 (a : Int), .int .u64 (b : Int)], .agg #[.int .u64 (c : Int), .int .u64 (d : Int)], .pointer (some ⟨B, 0, none⟩), .pointer (some ⟨B + 1, 0, none⟩), .bool false, undef, undef, .agg #[.int .u64 (a : Int), .int .u64 (b : Int)], .bool true, .bool false, .bool false, .agg #[.int .u64 (c : Int), .int .u64 (d : Int)], .bool true, .bool false, .bool false, undef, .agg #[.int .u64 (a : Int), .int .u64 (b : Int)], .agg #[.int .u64 (a : Int), .int .u64 (b : Int)], .agg #[.int .u64 (c : Int), .int .u64 (d : Int)], .agg #[.int .u64 (n1 : Int), .int .u64 (m1 : Int)], .agg #[.int .u64 (c : Int), .int .u64 (d : Int)], .agg #[.int .u64 (n2 : Int), .int .u64 (m2 : Int)], .bool true, .bool false, .bool false, .agg #[.int .u64 (a : Int), .int .u64 (b : Int)], .agg #[.int .u64 (n3 : Int), .int .u64 (m3 : Int)], .agg #[.int .u64 (a : Int), .int .u64 (b : Int)], .agg #[.int .u64 (a : Int), .int .u64 (b : Int)], .agg #[.int .u64 (n4 : Int), .int .u64 (m4 : Int)], .bool true, .bool false, .bool false, .agg #[.int .u64 (c : Int), .int .u64 (d : Int)], dz, .bool true, .bool false, .bool false, undef, undef, undef, undef, undef, undef, undef, undef, undef, undef, undef, undef, undef, undef, undef, undef, undef, undef, undef, undef, undef, undef, undef, undef, undef, undef], defers := [] } _
      refine wpAny_take (i := 7) (v := undef) rfl (by kernel_rfl) (by kernel_rfl) (by kernel_rfl) (fun _ _ _ h => h) (Or.inr ⟨by rfl, rfl⟩) ?_
      change wpAny _ _ _ _ _ _ { tmps := #[.agg #[.int .u64 (a : Int), .int .u64 (b : Int)], .agg #[.int .u64 (c : Int), .int .u64 (d : Int)], .pointer (some ⟨B, 0, none⟩), .pointer (some ⟨B + 1, 0, none⟩), .bool false, undef, undef, .agg #[.int .u64 (a : Int), .int .u64 (b : Int)], .bool true, .bool false, .bool false, .agg #[.int .u64 (c : Int), .int .u64 (d : Int)], .bool true, .bool false, .bool false, undef, .agg #[.int .u64 (a : Int), .int .u64 (b : Int)], .agg #[.int .u64 (a : Int), .int .u64 (b : Int)], .agg #[.int .u64 (c : Int), .int .u64 (d : Int)], .agg #[.int .u64 (n1 : Int), .int .u64 (m1 : Int)], .agg #[.int .u64 (c : Int), .int .u64 (d : Int)], .agg #[.int .u64 (n2 : Int), .int .u64 (m2 : Int)], .bool true, .bool false, .bool false, .agg #[.int .u64 (a : Int), .int .u64 (b : Int)], .agg #[.int .u64 (n3 : Int), .int .u64 (m3 : Int)], .agg #[.int .u64 (a : Int), .int .u64 (b : Int)], .agg #[.int .u64 (a : Int), .int .u64 (b : Int)], .agg #[.int .u64 (n4 : Int), .int .u64 (m4 : Int)], .bool true, .bool false, .bool false, .agg #[.int .u64 (c : Int), .int .u64 (d : Int)], dz, .bool true, .bool false, .bool false, undef, undef, undef, undef, undef, undef, undef, undef, undef, undef, undef, undef, undef, undef, undef, undef, undef, undef, undef, undef, undef, undef, undef, undef, undef, undef], defers := [] } _
      refine wpAny_take (i := 8) (v := undef) rfl (by kernel_rfl) (by kernel_rfl) (by kernel_rfl) (fun _ _ _ h => h) (Or.inr ⟨by rfl, rfl⟩) ?_
      change wpAny _ _ _ _ _ _ { tmps := #[.agg #[.int .u64 (a : Int), .int .u64 (b : Int)], .agg #[.int .u64 (c : Int), .int .u64 (d : Int)], .pointer (some ⟨B, 0, none⟩), .pointer (some ⟨B + 1, 0, none⟩), .bool false, undef, undef, .agg #[.int .u64 (a : Int), .int .u64 (b : Int)], .bool true, .bool false, .bool false, .agg #[.int .u64 (c : Int), .int .u64 (d : Int)], .bool true, .bool false, .bool false, undef, .agg #[.int .u64 (a : Int), .int .u64 (b : Int)], .agg #[.int .u64 (a : Int), .int .u64 (b : Int)], .agg #[.int .u64 (c : Int), .int .u64 (d : Int)], .agg #[.int .u64 (n1 : Int), .int .u64 (m1 : Int)], .agg #[.int .u64 (c : Int), .int .u64 (d : Int)], .agg #[.int .u64 (n2 : Int), .int .u64 (m2 : Int)], .bool true, .bool false, .bool false, .agg #[.int .u64 (a : Int), .int .u64 (b : Int)], .agg #[.int .u64 (n3 : Int), .int .u64 (m3 : Int)], .agg #[.int .u64 (a : Int), .int .u64 (b : Int)], .agg #[.int .u64 (a : Int), .int .u64 (b : Int)], .agg #[.int .u64 (n4 : Int), .int .u64 (m4 : Int)], .bool true, .bool false, .bool false, .agg #[.int .u64 (c : Int), .int .u64 (d : Int)], dz, .bool true, .bool false, .bool false, undef, undef, undef, undef, undef, undef, undef, undef, undef, undef, undef, undef, undef, undef, undef, undef, undef, undef, undef, undef, undef, undef, undef, undef, undef, undef], defers := [] } _
      refine wpAny_take (i := 9) (v := undef) rfl (by kernel_rfl) (by kernel_rfl) (by kernel_rfl) (fun _ _ _ h => h) (Or.inr ⟨by rfl, rfl⟩) ?_
      change wpAny _ _ _ _ _ _ { tmps := #[.agg #[.int .u64 (a : Int), .int .u64 (b : Int)], .agg #[.int .u64 (c : Int), .int .u64 (d : Int)], .pointer (some ⟨B, 0, none⟩), .pointer (some ⟨B + 1, 0, none⟩), .bool false, undef, undef, .agg #[.int .u64 (a : Int), .int .u64 (b : Int)], .bool true, .bool false, .bool false, .agg #[.int .u64 (c : Int), .int .u64 (d : Int)], .bool true, .bool false, .bool false, undef, .agg #[.int .u64 (a : Int), .int .u64 (b : Int)], .agg #[.int .u64 (a : Int), .int .u64 (b : Int)], .agg #[.int .u64 (c : Int), .int .u64 (d : Int)], .agg #[.int .u64 (n1 : Int), .int .u64 (m1 : Int)], .agg #[.int .u64 (c : Int), .int .u64 (d : Int)], .agg #[.int .u64 (n2 : Int), .int .u64 (m2 : Int)], .bool true, .bool false, .bool false, .agg #[.int .u64 (a : Int), .int .u64 (b : Int)], .agg #[.int .u64 (n3 : Int), .int .u64 (m3 : Int)], .agg #[.int .u64 (a : Int), .int .u64 (b : Int)], .agg #[.int .u64 (a : Int), .int .u64 (b : Int)], .agg #[.int .u64 (n4 : Int), .int .u64 (m4 : Int)], .bool true, .bool false, .bool false, .agg #[.int .u64 (c : Int), .int .u64 (d : Int)], dz, .bool true, .bool false, .bool false, undef, undef, undef, undef, undef, undef, undef, undef, undef, undef, undef, undef, undef, undef, undef, undef, undef, undef, undef, undef, undef, undef, undef, undef, undef, undef], defers := [] } _
      refine wpAny_take (i := 10) (v := undef) rfl (by kernel_rfl) (by kernel_rfl) (by kernel_rfl) (fun _ _ _ h => h) (Or.inr ⟨by rfl, rfl⟩) ?_
      change wpAny _ _ _ _ _ _ { tmps := #[.agg #[.int .u64 (a : Int), .int .u64 (b : Int)], .agg #[.int .u64 (c : Int), .int .u64 (d : Int)], .pointer (some ⟨B, 0, none⟩), .pointer (some ⟨B + 1, 0, none⟩), .bool false, undef, undef, .agg #[.int .u64 (a : Int), .int .u64 (b : Int)], .bool true, .bool false, .bool false, .agg #[.int .u64 (c : Int), .int .u64 (d : Int)], .bool true, .bool false, .bool false, undef, .agg #[.int .u64 (a : Int), .int .u64 (b : Int)], .agg #[.int .u64 (a : Int), .int .u64 (b : Int)], .agg #[.int .u64 (c : Int), .int .u64 (d : Int)], .agg #[.int .u64 (n1 : Int), .int .u64 (m1 : Int)], .agg #[.int .u64 (c : Int), .int .u64 (d : Int)], .agg #[.int .u64 (n2 : Int), .int .u64 (m2 : Int)], .bool true, .bool false, .bool false, .agg #[.int .u64 (a : Int), .int .u64 (b : Int)], .agg #[.int .u64 (n3 : Int), .int .u64 (m3 : Int)], .agg #[.int .u64 (a : Int), .int .u64 (b : Int)], .agg #[.int .u64 (a : Int), .int .u64 (b : Int)], .agg #[.int .u64 (n4 : Int), .int .u64 (m4 : Int)], .bool true, .bool false, .bool false, .agg #[.int .u64 (c : Int), .int .u64 (d : Int)], dz, .bool true, .bool false, .bool false, undef, undef, undef, undef, undef, undef, undef, undef, undef, undef, undef, undef, undef, undef, undef, undef, undef, undef, undef, undef, undef, undef, undef, undef, undef, undef], defers := [] } _
      refine wpAny_take (i := 11) (v := undef) rfl (by kernel_rfl) (by kernel_rfl) (by kernel_rfl) (fun _ _ _ h => h) (Or.inr ⟨by rfl, rfl⟩) ?_
      change wpAny _ _ _ _ _ _ { tmps := #[.agg #[.int .u64 (a : Int), .int .u64 (b : Int)], .agg #[.int .u64 (c : Int), .int .u64 (d : Int)], .pointer (some ⟨B, 0, none⟩), .pointer (some ⟨B + 1, 0, none⟩), .bool false, undef, undef, .agg #[.int .u64 (a : Int), .int .u64 (b : Int)], .bool true, .bool false, .bool false, .agg #[.int .u64 (c : Int), .int .u64 (d : Int)], .bool true, .bool false, .bool false, undef, .agg #[.int .u64 (a : Int), .int .u64 (b : Int)], .agg #[.int .u64 (a : Int), .int .u64 (b : Int)], .agg #[.int .u64 (c : Int), .int .u64 (d : Int)], .agg #[.int .u64 (n1 : Int), .int .u64 (m1 : Int)], .agg #[.int .u64 (c : Int), .int .u64 (d : Int)], .agg #[.int .u64 (n2 : Int), .int .u64 (m2 : Int)], .bool true, .bool false, .bool false, .agg #[.int .u64 (a : Int), .int .u64 (b : Int)], .agg #[.int .u64 (n3 : Int), .int .u64 (m3 : Int)], .agg #[.int .u64 (a : Int), .int .u64 (b : Int)], .agg #[.int .u64 (a : Int), .int .u64 (b : Int)], .agg #[.int .u64 (n4 : Int), .int .u64 (m4 : Int)], .bool true, .bool false, .bool false, .agg #[.int .u64 (c : Int), .int .u64 (d : Int)], dz, .bool true, .bool false, .bool false, undef, undef, undef, undef, undef, undef, undef, undef, undef, undef, undef, undef, undef, undef, undef, undef, undef, undef, undef, undef, undef, undef, undef, undef, undef, undef], defers := [] } _
      refine wpAny_take (i := 12) (v := undef) rfl (by kernel_rfl) (by kernel_rfl) (by kernel_rfl) (fun _ _ _ h => h) (Or.inr ⟨by rfl, rfl⟩) ?_
      change wpAny _ _ _ _ _ _ { tmps := #[.agg #[.int .u64 (a : Int), .int .u64 (b : Int)], .agg #[.int .u64 (c : Int), .int .u64 (d : Int)], .pointer (some ⟨B, 0, none⟩), .pointer (some ⟨B + 1, 0, none⟩), .bool false, undef, undef, .agg #[.int .u64 (a : Int), .int .u64 (b : Int)], .bool true, .bool false, .bool false, .agg #[.int .u64 (c : Int), .int .u64 (d : Int)], .bool true, .bool false, .bool false, undef, .agg #[.int .u64 (a : Int), .int .u64 (b : Int)], .agg #[.int .u64 (a : Int), .int .u64 (b : Int)], .agg #[.int .u64 (c : Int), .int .u64 (d : Int)], .agg #[.int .u64 (n1 : Int), .int .u64 (m1 : Int)], .agg #[.int .u64 (c : Int), .int .u64 (d : Int)], .agg #[.int .u64 (n2 : Int), .int .u64 (m2 : Int)], .bool true, .bool false, .bool false, .agg #[.int .u64 (a : Int), .int .u64 (b : Int)], .agg #[.int .u64 (n3 : Int), .int .u64 (m3 : Int)], .agg #[.int .u64 (a : Int), .int .u64 (b : Int)], .agg #[.int .u64 (a : Int), .int .u64 (b : Int)], .agg #[.int .u64 (n4 : Int), .int .u64 (m4 : Int)], .bool true, .bool false, .bool false, .agg #[.int .u64 (c : Int), .int .u64 (d : Int)], dz, .bool true, .bool false, .bool false, undef, undef, undef, undef, undef, undef, undef, undef, undef, undef, undef, undef, undef, undef, undef, undef, undef, undef, undef, undef, undef, undef, undef, undef, undef, undef], defers := [] } _
      refine wpAny_take (i := 13) (v := .bool false) rfl (by kernel_rfl) (by kernel_rfl) (by kernel_rfl) (fun _ _ _ h => h) (Or.inl ⟨by rfl, by intro w; first | (go_simp; done) | (go_simp; with_reducible rfl)⟩) ?_
      change wpAny _ _ _ _ _ _ { tmps := #[.agg #[.int .u64 (a : Int), .int .u64 (b : Int)], .agg #[.int .u64 (c : Int), .int .u64 (d : Int)], .pointer (some ⟨B, 0, none⟩), .pointer (some ⟨B + 1, 0, none⟩), .bool false, undef, undef, .agg #[.int .u64 (a : Int), .int .u64 (b : Int)], .bool true, .bool false, .bool false, .agg #[.int .u64 (c : Int), .int .u64 (d : Int)], .bool true, .bool false, .bool false, undef, .agg #[.int .u64 (a : Int), .int .u64 (b : Int)], .agg #[.int .u64 (a : Int), .int .u64 (b : Int)], .agg #[.int .u64 (c : Int), .int .u64 (d : Int)], .agg #[.int .u64 (n1 : Int), .int .u64 (m1 : Int)], .agg #[.int .u64 (c : Int), .int .u64 (d : Int)], .agg #[.int .u64 (n2 : Int), .int .u64 (m2 : Int)], .bool true, .bool false, .bool false, .agg #[.int .u64 (a : Int), .int .u64 (b : Int)], .agg #[.int .u64 (n3 : Int), .int .u64 (m3 : Int)], .agg #[.int .u64 (a : Int), .int .u64 (b : Int)], .agg #[.int .u64 (a : Int), .int .u64 (b : Int)], .agg #[.int .u64 (n4 : Int), .int .u64 (m4 : Int)], .bool true, .bool false, .bool false, .agg #[.int .u64 (c : Int), .int .u64 (d : Int)], dz, .bool true, .bool false, .bool false, undef, undef, undef, undef, undef, undef, undef, undef, .bool false, undef, undef, undef, undef, undef, undef, undef, undef, undef, undef, undef, undef, undef, undef, undef, undef, undef], defers := [] } _
      refine wpAny_done (by kernel_rfl) ?_ _
      clear a0 a1 a2 a3
      obtain ⟨⟨a0, a1⟩, a2, a3⟩ := HC.out _ st
      go_wp2_with fail
      refine (CC.out _).mono ?_
      rintro r w7 ⟨rfl, hE⟩
      have st : Ext V w7 := Ext.trans st hE
      clear hE
      by_cases hcs : 0 ≤ cs
      · have SR := Lib.hid (S7.out hcs)
        have KR := Lib.hid (K7.out hcs)
        clear S7 K7
        clear a0 a1 a2 a3
        obtain ⟨⟨a0, a1⟩, a2, a3⟩ := HC.out _ st
        go_upto_region 8 with fail
        have st : Ext V _ := st.drew
        go_region_held3 (fun wx => (wx.cell? ⟨B, 0, none⟩ = some (.int .u64 (a : Int)) ∧ wx.cell? ⟨B, 1, none⟩ = some (.int .u64 (b : Int))) ∧ (wx.cell? ⟨B + 1, 0, none⟩ = some (.int .u64 (c : Int)) ∧ wx.cell? ⟨B + 1, 1, none⟩ = some (.int .u64 (d : Int))))
          (first | exact HC.out _ (by assumption))
          (first
            | (go_at_call 9; (with_reducible refine (K3.out _).mono ?_); rintro r wn ⟨rfl, hE⟩; have st : Ext V wn := Ext.trans (by assumption) hE; clear hE)
            | (go_at_call 15; (with_reducible refine (KR.out _).mono ?_); rintro r wn ⟨rfl, hE⟩; have st : Ext V wn := Ext.trans (by assumption) hE; clear hE)
            | (go_at_call 6; (with_reducible refine (SR.out _).mono ?_); rintro r wn ⟨rfl, hE⟩; have st : Ext V wn := Ext.trans (by assumption) hE; clear hE)
          )
        clear a0 a1 a2 a3
        go_wp2_with fail
        refine (CA.out _).mono ?_
        rintro r w9 ⟨rfl, hE⟩
        have HF := Lib.hid (HB.out.trans (Ext.trans st hE))
        go_wp2
        go_ret
        exact ⟨rfl, HF.out⟩
      · obtain ⟨⟨a0, a1⟩, a2, a3⟩ := HC.out _ st
        have hcs2 : decide (0 ≤ cs) = false := decide_eq_false hcs
        go_upto_region 8 with fail
        go_quiet (fail)
        have st : Ext V _ := below_drewN st nq
        clear a0 a1 a2 a3
        go_wp2_with fail
        refine (CA.out _).mono ?_
        rintro r w9 ⟨rfl, hE⟩
        have HF := Lib.hid (HB.out.trans (Ext.trans st hE))
        go_wp2
        go_ret
        exact ⟨rfl, HF.out⟩

theorem iundoL_int (a b c d : Int) (w : World) (ha : 0 ≤ a ∧ a < 18446744073709551616) (hb : 0 ≤ b ∧ b < 18446744073709551616) (hc : 0 ≤ c ∧ c < 18446744073709551616) (hd : 0 ≤ d ∧ d < 18446744073709551616) (hT : Table w) :
    Calls Tryd.prog 3 #[.agg #[.int .u64 a, .int .u64 b], .agg #[.int .u64 c, .int .u64 d]] w fun r w' => r = .returned (.bool true) ∧ Ext w w' := by
  have h := iundoL_any a.toNat b.toNat c.toNat d.toNat (by omega) (by omega) (by omega) (by omega) w hT
  rw [Int.toNat_of_nonneg ha.1, Int.toNat_of_nonneg hb.1, Int.toNat_of_nonneg hc.1, Int.toNat_of_nonneg hd.1] at h
  exact h
end Go.Proofs.YtekocoklfnojmaaDoor
