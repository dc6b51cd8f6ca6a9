/- IntervalPoints returns true, from what its callees do. -/
import Derived.Test.YtpjfipjmpppjcaaCIPair
namespace Go.Proofs.Ytpjfipjmpppjcaa
open Go.RowKit

set_option maxRecDepth 100000 in
theorem refFin_any (f : Nat) (hf : f < 18446744073709551616) (b : Bool) (hb : finB f = b) (w : World) :
    Calls Try.prog 4 #[.int .u64 (f : Int)] w fun e w' => e = .returned (.bool b) ∧ w = w' := by
  have h1 : (f : Int) / 4503599627370496 = ((f / 4503599627370496 : Nat) : Int) := (Int.natCast_ediv _ _).symm
  have h2 := bits_and_u64_nat (f / 4503599627370496) 2047 (by omega) (by omega)
  rw [show (2047 : Nat) = 2 ^ 11 - 1 from rfl, Nat.and_two_pow_sub_one_eq_mod] at h2
  have h3 : (((f / 4503599627370496 % 2 ^ 11 : Nat) : Int) != 2047) = b := by
    rw [← hb]
    unfold finB fmag
    by_cases h : f % 9223372036854775808 < 9218868437227405312
    · rw [decide_eq_true h]; simp; omega
    · rw [decide_eq_false h]; simp; omega
  obtain ⟨q, hq⟩ : ∃ q : Nat, f / 4503599627370496 % 2 ^ 11 = q := ⟨_, rfl⟩
  rw [hq] at h2 h3
  have h2 : bits BinOp.and IntKind.u64 ((f / 4503599627370496 : Nat) : Int) 2047 = (q : Int) := h2
  rw [← h1] at h2
  clear hb hq h1
  cases b
  all_goals
    go_enter Try.func4, Try.ntmps4
    go_wp2
    go_ret
    exact ⟨ret_bool (by first | rfl | exact h3), rfl⟩

theorem lit_facts : finB 4607182418800017408 = true ∧ plainF 4607182418800017408 = 4607182418800017408 ∧ finB 4611686018427387904 = true ∧ plainF 4611686018427387904 = 4611686018427387904 ∧ validF 4607182418800017408 4607182418800017408 = true ∧ validF 4607182418800017408 4611686018427387904 = true ∧ validF 4611686018427387904 4607182418800017408 = false ∧ subF 4607182418800017408 4607182418800017408 4607182418800017408 4611686018427387904 = true ∧ plainF (faddF 4607182418800017408 4607182418800017408 1) = 4611686018427387904 ∧ plainF (faddF 4607182418800017408 4607182418800017408 2) = 4611686018427387904 := by decide +kernel
theorem lit_mul : MulF 4607182418800017408 4607182418800017408 4607182418800017408 4611686018427387904 4607182418800017408 4611686018427387904 [4607182418800017408, 4611686018427387904, 4607182418800017408, 4611686018427387904] [4607182418800017408, 4611686018427387904, 4607182418800017408, 4611686018427387904] :=
  ⟨by decide +kernel, by decide +kernel, by decide +kernel, by decide +kernel, by decide +kernel, by decide +kernel⟩

set_option maxRecDepth 100000 in
set_option maxHeartbeats 8000000 in
theorem iawake_any (w : World) : Calls Try.prog 5 #[] w fun e w' => e = .returned (.bool true) ∧ Ext w w' := by
  obtain ⟨f1, f2, f3, f4, f5, f6, f7, f8, f9, f10⟩ := lit_facts
  have P1 : ∀ w, Calls Try.prog 6 #[.int .u64 4607182418800017408] w fun e w' => e = .returned (.agg #[.int .u64 4607182418800017408, .int .u64 4607182418800017408]) ∧ Ext w w' := point_any 4607182418800017408 (by decide) _ (by rw [f1, f2]; rfl)
  have P2 : ∀ w, Calls Try.prog 6 #[.int .u64 4611686018427387904] w fun e w' => e = .returned (.agg #[.int .u64 4611686018427387904, .int .u64 4611686018427387904]) ∧ Ext w w' := point_any 4611686018427387904 (by decide) _ (by rw [f3, f4]; rfl)
  have CA : ∀ w, Calls Try.prog 7 #[.agg #[.int .u64 4607182418800017408, .int .u64 4607182418800017408], .agg #[.int .u64 4607182418800017408, .int .u64 4607182418800017408]] w fun e w' => e = .returned (.agg #[.int .u64 4611686018427387904, .int .u64 4611686018427387904]) ∧ Ext w w' := by
    intro w
    have := iadd_yes 4607182418800017408 4607182418800017408 4607182418800017408 4607182418800017408 (by decide) (by decide) (by decide) (by decide) f5 f5 w
    rw [f9, f10] at this
    exact this
  have CM : ∀ w, Calls Try.prog 8 #[.agg #[.int .u64 4607182418800017408, .int .u64 4607182418800017408], .agg #[.int .u64 4607182418800017408, .int .u64 4611686018427387904]] w fun e w' => e = .returned (.agg #[.int .u64 4607182418800017408, .int .u64 4611686018427387904]) ∧ Ext w w' := imul_yes 4607182418800017408 4607182418800017408 4607182418800017408 4611686018427387904 4607182418800017408 4611686018427387904 _ _ (by decide) (by decide) (by decide) (by decide) f5 f6 lit_mul
  have V1 : ∀ w, Calls Try.prog 12 #[.agg #[.int .u64 4607182418800017408, .int .u64 4611686018427387904]] w fun e w' => e = .returned (.bool true) ∧ Ext w w' := ivalid_at 4607182418800017408 4611686018427387904 (by decide) (by decide) rfl rfl true f6
  have V2 : ∀ w, Calls Try.prog 12 #[.agg #[.int .u64 4611686018427387904, .int .u64 4607182418800017408]] w fun e w' => e = .returned (.bool false) ∧ Ext w w' := ivalid_at 4611686018427387904 4607182418800017408 (by decide) (by decide) rfl rfl false f7
  have CS : ∀ w, Calls Try.prog 13 #[.agg #[.int .u64 4607182418800017408, .int .u64 4607182418800017408], .agg #[.int .u64 4607182418800017408, .int .u64 4611686018427387904]] w fun e w' => e = .returned (.bool true) ∧ Ext w w' := subset_yes 4607182418800017408 4607182418800017408 4607182418800017408 4611686018427387904 (by decide) (by decide) (by decide) (by decide) f8
  have P1 := Lib.hid P1; have P2 := Lib.hid P2; have CA := Lib.hid CA; have CM := Lib.hid CM; have V1 := Lib.hid V1; have V2 := Lib.hid V2; have CS := Lib.hid CS
  clear f1 f2 f3 f4 f5 f6 f7 f8 f9 f10
  go_enter Try.func5, Try.ntmps5
  go_wp2_with fail
  refine (P1.out _).mono ?_
  rintro r w1 ⟨rfl, hE1⟩
  go_upto_region 3 with fail
  obtain ⟨W, hW, hB, hx, hy, hsz⟩ := ibox_two w1 4607182418800017408 4607182418800017408 4607182418800017408 4611686018427387904
  rw [← hW]
  clear hW
  have HB := Lib.hid (Ext.trans hE1 hB)
  generalize w1.heap.size = B at hx hy ⊢
  clear hB hsz hE1
  have HC := Lib.hid (show ∀ wx, Ext W wx → (wx.cell? ⟨B, 0, none⟩ = some (.int .u64 4607182418800017408) ∧ wx.cell? ⟨B, 1, none⟩ = some (.int .u64 4607182418800017408)) ∧ (wx.cell? ⟨B + 1, 0, none⟩ = some (.int .u64 4607182418800017408) ∧ wx.cell? ⟨B + 1, 1, none⟩ = some (.int .u64 4611686018427387904)) from fun wx h => ⟨⟨(hx.below h).c0, (hx.below h).c1⟩, (hy.below h).c0, (hy.below h).c1⟩)
  obtain ⟨⟨c0, c1⟩, c2, c3⟩ := HC.out W (Ext.refl _)
  have st : Ext W W.drew := ext_drewB' _
  go_region_held3 (fun wx => (wx.cell? ⟨B, 0, none⟩ = some (.int .u64 4607182418800017408) ∧ wx.cell? ⟨B, 1, none⟩ = some (.int .u64 4607182418800017408)) ∧ (wx.cell? ⟨B + 1, 0, none⟩ = some (.int .u64 4607182418800017408) ∧ wx.cell? ⟨B + 1, 1, none⟩ = some (.int .u64 4611686018427387904)))
    (first | exact HC.out _ (by assumption))
    (first
      | (go_at_call 7; (with_reducible refine (CA.out _).mono ?_); rintro r wn ⟨rfl, hE⟩; have st : Ext W wn := Ext.trans (by assumption) hE; clear hE)
      | (go_at_call 6; (with_reducible refine (P2.out _).mono ?_); rintro r wn ⟨rfl, hE⟩; have st : Ext W wn := Ext.trans (by assumption) hE; clear hE)
      | (go_at_call 8; (with_reducible refine (CM.out _).mono ?_); rintro r wn ⟨rfl, hE⟩; have st : Ext W wn := Ext.trans (by assumption) hE; clear hE)
      | (go_at_call 12; (with_reducible refine (V1.out _).mono ?_); rintro r wn ⟨rfl, hE⟩; have st : Ext W wn := Ext.trans (by assumption) hE; clear hE)
      | (go_at_call 12; (with_reducible refine (V2.out _).mono ?_); rintro r wn ⟨rfl, hE⟩; have st : Ext W wn := Ext.trans (by assumption) hE; clear hE)
      | (go_at_call 13; (with_reducible refine (CS.out _).mono ?_); rintro r wn ⟨rfl, hE⟩; have st : Ext W wn := Ext.trans (by assumption) hE; clear hE))
  go_wp2
  go_ret
  exact ⟨rfl, Ext.trans HB.out (by assumption)⟩

set_option maxRecDepth 100000 in
set_option maxHeartbeats 20000000 in
theorem ipoints_yes (a b : Nat) (ha : a < 18446744073709551616) (hb : b < 18446744073709551616) (hfa : finB a = true) (hfb : finB b = true) (w : World) :
    Calls Try.prog 3 #[.int .u64 (a : Int), .int .u64 (b : Int)] w fun e w' => e = .returned (.bool true) ∧ Ext w w' := by
  have RA := Lib.hid (refFin_any a ha true hfa)
  have RB := Lib.hid (refFin_any b hb true hfb)
  have hpa := plain_lt ha; have hpb := plain_lt hb
  have fpa := fin_plain hfa; have fpb := fin_plain hfb
  obtain ⟨nA1, lA1⟩ := add_num 1 hfa hfb hb
  obtain ⟨nA2, lA2⟩ := add_num 2 hfa hfb hb
  obtain ⟨nM1, lM1⟩ := mul_num 1 hfa hfb
  obtain ⟨nM2, lM2⟩ := mul_num 2 hfa hfb
  obtain ⟨nP1, lP1⟩ := add_num 1 fpa fpb hpb
  obtain ⟨nP2, lP2⟩ := add_num 2 fpa fpb hpb
  obtain ⟨nQ1, lQ1⟩ := mul_num 1 fpa fpb
  obtain ⟨nQ2, lQ2⟩ := mul_num 2 fpa fpb
  have rA1 := add_plain 1 ha hb hfa hfb
  have rA2 := add_plain 2 ha hb hfa hfb
  have rM1 := mul_plain 1 hfa hfb
  have rM2 := mul_plain 2 hfa hfb
  have PA := point_any a ha _ (by rw [hfa])
  have PB := point_any b hb _ (by rw [hfb])
  have CA := iadd_yes (plainF a) (plainF a) (plainF b) (plainF b) hpa hpa hpb hpb (valid_point fpa) (valid_point fpb)
  have hMf : MulF (plainF a) (plainF a) (plainF b) (plainF b) ((plainF (fmulF (plainF a) (plainF b) 1) : Nat) : Int) ((plainF (fmulF (plainF a) (plainF b) 2) : Nat) : Int) _ _ :=
    ⟨rfl, rfl, fun x hx => by simp at hx; rw [hx]; exact ⟨lQ1, nQ1⟩, fun x hx => by simp at hx; rw [hx]; exact ⟨lQ2, nQ2⟩, by rw [least_four lQ1 nQ1], by rw [great_four lQ2 nQ2]⟩
  have CM := imul_yes _ _ _ _ _ _ _ _ hpa hpa hpb hpb (valid_point fpa) (valid_point fpb) hMf
  have X1 := fcmp_any (plainF (faddF (plainF a) (plainF b) 1)) (faddF a b 1) (plain_lt lP1) lA1 0 true (cmp_same (by rw [(plain_rank _).2, nP1]) nA1 (by rw [(plain_rank _).1, rA1]))
  have X2 := fcmp_any (plainF (faddF (plainF a) (plainF b) 2)) (faddF a b 2) (plain_lt lP2) lA2 0 true (cmp_same (by rw [(plain_rank _).2, nP2]) nA2 (by rw [(plain_rank _).1, rA2]))
  have X3 := fcmp_any (plainF (fmulF (plainF a) (plainF b) 1)) (fmulF a b 1) (plain_lt lQ1) lM1 0 true (cmp_same (by rw [(plain_rank _).2, nQ1]) nM1 (by rw [(plain_rank _).1, rM1]))
  have X4 := fcmp_any (plainF (fmulF (plainF a) (plainF b) 2)) (fmulF a b 2) (plain_lt lQ2) lM2 0 true (cmp_same (by rw [(plain_rank _).2, nQ2]) nM2 (by rw [(plain_rank _).1, rM2]))
  have F1 := Lib.hid (fadd_any a b 1 ha hb)
  have F2 := Lib.hid (fadd_any a b 2 ha hb)
  have F3 := Lib.hid (fmul_any a b 1 ha hb)
  have F4 := Lib.hid (fmul_any a b 2 ha hb)
  clear hMf nA1 nA2 nM1 nM2 nP1 nP2 nQ1 nQ2 lA1 lA2 lM1 lM2 lP1 lP2 lQ1 lQ2 rA1 rA2 rM1 rM2 hpa hpb fpa fpb hfa hfb ha hb
  obtain ⟨s1, e1⟩ : ∃ i : Int, ((plainF (faddF (plainF a) (plainF b) 1) : Nat) : Int) = i := ⟨_, rfl⟩
  obtain ⟨s2, e2⟩ : ∃ i : Int, ((plainF (faddF (plainF a) (plainF b) 2) : Nat) : Int) = i := ⟨_, rfl⟩
  obtain ⟨p1, e3⟩ : ∃ i : Int, ((plainF (fmulF (plainF a) (plainF b) 1) : Nat) : Int) = i := ⟨_, rfl⟩
  obtain ⟨p2, e4⟩ : ∃ i : Int, ((plainF (fmulF (plainF a) (plainF b) 2) : Nat) : Int) = i := ⟨_, rfl⟩
  obtain ⟨pa, e5⟩ : ∃ i : Int, ((plainF a : Nat) : Int) = i := ⟨_, rfl⟩
  obtain ⟨pb, e6⟩ : ∃ i : Int, ((plainF b : Nat) : Int) = i := ⟨_, rfl⟩
  rw [e1] at X1
  rw [e2] at X2
  rw [e3] at X3
  rw [e4] at X4
  rw [e1, e2, e5, e6] at CA
  rw [e3, e4, e5, e6] at CM
  rw [e5] at PA
  rw [e6] at PB
  clear e1 e2 e3 e4 e5 e6
  have X1 := Lib.hid X1; have X2 := Lib.hid X2; have X3 := Lib.hid X3; have X4 := Lib.hid X4
  have CA := Lib.hid CA; have CM := Lib.hid CM; have PA := Lib.hid PA; have PB := Lib.hid PB
  generalize faddF a b 1 = R1 at *
  generalize faddF a b 2 = R2 at *
  generalize fmulF a b 1 = R3 at *
  generalize fmulF a b 2 = R4 at *
  go_enter Try.func3, Try.ntmps3
  go_wp2_with fail
  refine (RA.out _).mono ?_
  rintro r w1 ⟨rfl, rfl⟩
  go_wp2_with fail
  refine (RB.out _).mono ?_
  rintro r w1 ⟨rfl, rfl⟩
  go_wp2_with fail
  refine (PA.out _).mono ?_
  rintro r w1 ⟨rfl, hE1⟩
  go_wp2_with fail
  refine (PB.out _).mono ?_
  rintro r w2 ⟨rfl, hE2⟩
  go_upto_region 4 with fail
  obtain ⟨V, hV, hB, hx, hy, hsz⟩ := ibox_two w2 pa pa pb pb
  rw [← hV]
  clear hV
  have HB := Lib.hid (Ext.trans (Ext.trans hE1 hE2) hB)
  generalize w2.heap.size = B at hx hy hsz ⊢
  clear hB hE1 hE2
  have HC := Lib.hid (show ∀ wx, Ext V wx → (wx.cell? ⟨B, 0, none⟩ = some (.int .u64 pa) ∧ wx.cell? ⟨B, 1, none⟩ = some (.int .u64 pa)) ∧ (wx.cell? ⟨B + 1, 0, none⟩ = some (.int .u64 pb) ∧ wx.cell? ⟨B + 1, 1, none⟩ = some (.int .u64 pb)) from fun wx h => ⟨⟨(hx.below h).c0, (hx.below h).c1⟩, (hy.below h).c0, (hy.below h).c1⟩)
  clear hx hy
  obtain ⟨⟨c0, c1⟩, c2, c3⟩ := HC.out V (Ext.refl _)
  go_cut [7, 8] from 30 (fun p q wx => ∃ g h, p = .pointer (some ⟨g, 0, none⟩) ∧ q = .pointer (some ⟨h, 0, none⟩) ∧ IBox wx g s1 s2 ∧ IBox wx h p1 p2 ∧ Ext V wx)
  case first =>
    go_region_held3 (fun wx => (wx.cell? ⟨B, 0, none⟩ = some (.int .u64 pa) ∧ wx.cell? ⟨B, 1, none⟩ = some (.int .u64 pa)) ∧ (wx.cell? ⟨B + 1, 0, none⟩ = some (.int .u64 pb) ∧ wx.cell? ⟨B + 1, 1, none⟩ = some (.int .u64 pb)))
      ((refine ⟨?_, ?_⟩; ((repeat (first | with_reducible refine icells_drew ?_ | with_reducible refine icells_alloc ?_ | with_reducible refine icells_stored (by omega) ?_)); exact (HC.out _ (by first | with_reducible exact Ext.refl _ | with_reducible assumption)).1); ((repeat (first | with_reducible refine icells_drew ?_ | with_reducible refine icells_alloc ?_ | with_reducible refine icells_stored (by omega) ?_)); exact (HC.out _ (by first | with_reducible exact Ext.refl _ | with_reducible assumption)).2)))
      (first
        | (go_at_call 7; (with_reducible refine (CA.out _).mono ?_); rintro e wn ⟨rfl, hE1⟩; have stn : Ext V wn := Ext.trans (by first | with_reducible exact Ext.refl _ | with_reducible exact ext_drewB' _ | with_reducible exact ext_allocB' _ _ | exact Ext.trans (ext_allocB' _ _) (ext_drewB' _) | exact Ext.trans (ext_allocB' _ _) (ext_allocB' _ _) | exact Ext.trans (Ext.trans (ext_allocB' _ _) (ext_allocB' _ _)) (ext_drewB' _)) hE1; have sz1 := sizeB' stn; (first | (have y12 := ibox_in2d (w := V) (wn := wn) (by with_reducible assumption); have y1 : IBox wn V.heap.size 0 0 := y12.1; have y2 : IBox wn (V.heap.size + 1) 0 0 := y12.2; clear y12; have yl1 := y1.lt; have yl2 := y2.lt) | (have y12 := ibox_in1d (w := V) (wn := wn) (by with_reducible assumption); have y1 : IBox wn V.heap.size 0 0 := y12; clear y12; have yl1 := y1.lt) | skip))
        | (go_at_call 8; (with_reducible refine (CM.out _).mono ?_); rintro e wm ⟨rfl, hE2⟩; (first | (obtain ⟨z1, z2⟩ := ibox_in2 (w := wn) (wn := wm) (by with_reducible assumption); have zl1 := z1.lt; have zl2 := z2.lt; have hE3 : Ext wn wm := Ext.trans (Ext.trans (ext_allocB' _ _) (ext_allocB' _ _)) hE2) | (have z1 := ibox_in1 (w := wn) (wn := wm) (by with_reducible assumption); have zl1 := z1.lt; have hE3 : Ext wn wm := Ext.trans (ext_allocB' _ _) hE2) | (have hE3 : Ext wn wm := hE2)); have stm : Ext V wm := Ext.trans stn hE3; have sz2 := sizeB' stm; (first | (have y2 := y2.below hE3; have ym2 := y2.lt; have v0 := y2.c0; have v1 := y2.c1; have v2 := y2.f 0; have v3 := y2.f 1) | skip); (first | (have y1 := y1.below hE3; have ym1 := y1.lt; have u0 := y1.c0; have u1 := y1.c1; have u2 := y1.f 0; have u3 := y1.f 1) | skip); (first | (have s'0 := z1.c0; have s'1 := z1.c1; have s'2 := z1.f 0; have s'3 := z1.f 1) | skip); (first | (have t0 := z2.c0; have t1 := z2.c1; have t2 := z2.f 0; have t3 := z2.f 1) | skip)))
    all_goals
      try clear u0 u1 u2 u3
      try clear v0 v1 v2 v3
      try clear s'0 s'1 s'2 s'3
      try clear t0 t1 t2 t3
      go_wp2
      go_meet
    all_goals
      refine ⟨_, _, rfl, rfl, ?_⟩
      first
        | (have _t := y2; first | (have F := ipair_stored (x1 := s1) (x2 := s2) (y1 := p1) (y2 := p2) y1 y2 (by omega) stm (by omega) (by omega); with_reducible exact F) | (have F := ipair_stored (x1 := s1) (x2 := s2) (y1 := p1) (y2 := p2) y2 y1 (by omega) stm (by omega) (by omega); with_reducible exact F))
        | (have _t := z2; first | (have F := ipair_stored (x1 := s1) (x2 := s2) (y1 := p1) (y2 := p2) z1 z2 (by omega) stm (by omega) (by omega); with_reducible exact F) | (have F := ipair_stored (x1 := s1) (x2 := s2) (y1 := p1) (y2 := p2) z2 z1 (by omega) stm (by omega) (by omega); with_reducible exact F))
        | (have _t := y1; have _t2 := z1; first | (have F := ipair_stored (x1 := s1) (x2 := s2) (y1 := p1) (y2 := p2) y1 z1 (by omega) stm (by omega) (by omega); with_reducible exact F) | (have F := ipair_stored (x1 := s1) (x2 := s2) (y1 := p1) (y2 := p2) z1 y1 (by omega) stm (by omega) (by omega); with_reducible exact F))
        | (have _t := y1; first | (have F := ifin_mix (x1 := s1) (x2 := s2) (y1 := p1) (y2 := p2) stm y1 (by omega); with_reducible exact F) | (have F := ifin_mix (x1 := p1) (x2 := p2) (y1 := s1) (y2 := s2) stm y1 (by omega); with_reducible exact ⟨F.2.1, F.1, F.2.2⟩))
        | (have _t := z1; first | (have F := ifin_mix (x1 := s1) (x2 := s2) (y1 := p1) (y2 := p2) stm z1 (by omega); with_reducible exact F) | (have F := ifin_mix (x1 := p1) (x2 := p2) (y1 := s1) (y2 := s2) stm z1 (by omega); with_reducible exact ⟨F.2.1, F.1, F.2.2⟩))
        | (have F := ifin_new (x1 := s1) (x2 := s2) (y1 := p1) (y2 := p2) stm; with_reducible exact F)
        | (have F := ifin_new (x1 := p1) (x2 := p2) (y1 := s1) (y2 := s2) stm; with_reducible exact ⟨F.2.1, F.1, F.2.2⟩)
  case rest =>
    obtain ⟨g, h, rfl, rfl, sb, pb', hEV⟩ := hcut
    have HC2 := Lib.hid (show ∀ wx, Ext wc wx → (wx.cell? ⟨g, 0, none⟩ = some (.int .u64 s1) ∧ wx.cell? ⟨g, 1, none⟩ = some (.int .u64 s2)) ∧ (wx.cell? ⟨h, 0, none⟩ = some (.int .u64 p1) ∧ wx.cell? ⟨h, 1, none⟩ = some (.int .u64 p2)) from fun wx h => ⟨⟨(sb.below h).c0, (sb.below h).c1⟩, (pb'.below h).c0, (pb'.below h).c1⟩)
    have HBC := Lib.hid (Ext.trans HB.out hEV)
    clear c0 c1 c2 c3 sb pb' hEV HC HB hsz
    obtain ⟨⟨c0, c1⟩, c2, c3⟩ := HC2.out wc (Ext.refl _)
    have st : Ext wc wc := Ext.refl _
    go_wp2_with fail
    have st : Ext wc wc.drew := Ext.trans st (ext_drewB' _)
    go_region_held3 (fun wx => (wx.cell? ⟨g, 0, none⟩ = some (.int .u64 s1) ∧ wx.cell? ⟨g, 1, none⟩ = some (.int .u64 s2)) ∧ (wx.cell? ⟨h, 0, none⟩ = some (.int .u64 p1) ∧ wx.cell? ⟨h, 1, none⟩ = some (.int .u64 p2)))
      (first | exact HC2.out _ (by assumption))
      (first
        | (go_at_call 10; (with_reducible refine (F1.out _).mono ?_); rintro r u1 ⟨rfl, hE⟩; have st : Ext wc u1 := Ext.trans (by assumption) hE; clear hE)
        | (go_at_call 9; (with_reducible refine (X1.out _).mono ?_); rintro r v1 ⟨rfl, hE⟩; have st : Ext wc v1 := Ext.trans (by assumption) hE; clear hE))
    clear c0 c1 c2 c3
    have st : Ext wc v1 := by assumption
    obtain ⟨⟨c0, c1⟩, c2, c3⟩ := HC2.out _ st
    go_wp2_with fail
    have st : Ext wc v1.drew := Ext.trans st (ext_drewB' _)
    go_region_held3 (fun wx => (wx.cell? ⟨g, 0, none⟩ = some (.int .u64 s1) ∧ wx.cell? ⟨g, 1, none⟩ = some (.int .u64 s2)) ∧ (wx.cell? ⟨h, 0, none⟩ = some (.int .u64 p1) ∧ wx.cell? ⟨h, 1, none⟩ = some (.int .u64 p2)))
      (first | exact HC2.out _ (by assumption))
      (first
        | (go_at_call 10; (with_reducible refine (F2.out _).mono ?_); rintro r u2 ⟨rfl, hE⟩; have st : Ext wc u2 := Ext.trans (by assumption) hE; clear hE)
        | (go_at_call 9; (with_reducible refine (X2.out _).mono ?_); rintro r v2 ⟨rfl, hE⟩; have st : Ext wc v2 := Ext.trans (by assumption) hE; clear hE))
    clear c0 c1 c2 c3
    have st : Ext wc v2 := by assumption
    obtain ⟨⟨c0, c1⟩, c2, c3⟩ := HC2.out _ st
    go_wp2_with fail
    have st : Ext wc v2.drew := Ext.trans st (ext_drewB' _)
    go_region_held3 (fun wx => (wx.cell? ⟨g, 0, none⟩ = some (.int .u64 s1) ∧ wx.cell? ⟨g, 1, none⟩ = some (.int .u64 s2)) ∧ (wx.cell? ⟨h, 0, none⟩ = some (.int .u64 p1) ∧ wx.cell? ⟨h, 1, none⟩ = some (.int .u64 p2)))
      (first | exact HC2.out _ (by assumption))
      (first
        | (go_at_call 11; (with_reducible refine (F3.out _).mono ?_); rintro r u3 ⟨rfl, hE⟩; have st : Ext wc u3 := Ext.trans (by assumption) hE; clear hE)
        | (go_at_call 9; (with_reducible refine (X3.out _).mono ?_); rintro r v3 ⟨rfl, hE⟩; have st : Ext wc v3 := Ext.trans (by assumption) hE; clear hE))
    clear c0 c1 c2 c3
    have st : Ext wc v3 := by assumption
    obtain ⟨⟨c0, c1⟩, c2, c3⟩ := HC2.out _ st
    go_wp2_with fail
    have st : Ext wc v3.drew := Ext.trans st (ext_drewB' _)
    go_region_held3 (fun wx => (wx.cell? ⟨g, 0, none⟩ = some (.int .u64 s1) ∧ wx.cell? ⟨g, 1, none⟩ = some (.int .u64 s2)) ∧ (wx.cell? ⟨h, 0, none⟩ = some (.int .u64 p1) ∧ wx.cell? ⟨h, 1, none⟩ = some (.int .u64 p2)))
      (first | exact HC2.out _ (by assumption))
      (first
        | (go_at_call 11; (with_reducible refine (F4.out _).mono ?_); rintro r u4 ⟨rfl, hE⟩; have st : Ext wc u4 := Ext.trans (by assumption) hE; clear hE)
        | (go_at_call 9; (with_reducible refine (X4.out _).mono ?_); rintro r v4 ⟨rfl, hE⟩; have st : Ext wc v4 := Ext.trans (by assumption) hE; clear hE))
    clear c0 c1 c2 c3
    have st : Ext wc v4 := by assumption
    obtain ⟨⟨c0, c1⟩, c2, c3⟩ := HC2.out _ st
    go_wp2_with fail
    refine (iawake_any _).mono ?_
    rintro r wz ⟨rfl, hE⟩
    go_wp2
    go_ret
    exact ⟨rfl, Ext.trans (Ext.trans HBC.out st) hE⟩

set_option maxRecDepth 100000 in
set_option maxHeartbeats 2000000 in
theorem ipoints_any (a b : Nat) (ha : a < 18446744073709551616) (hb : b < 18446744073709551616) (w : World) :
    Calls Try.prog 3 #[.int .u64 (a : Int), .int .u64 (b : Int)] w fun e w' => e = .returned (.bool true) ∧ Ext w w' := by
  cases hfa : finB a with
  | false =>
    have RA := Lib.hid (refFin_any a ha false hfa)
    clear hfa ha hb
    go_enter Try.func3, Try.ntmps3
    go_wp2_with fail
    refine (RA.out _).mono ?_
    rintro r w1 ⟨rfl, rfl⟩
    go_wp2_with fail
    refine (iawake_any _).mono ?_
    rintro r wz ⟨rfl, hE⟩
    go_wp2
    go_ret
    exact ⟨rfl, hE⟩
  | true =>
    cases hfb : finB b with
    | false =>
      have RA := Lib.hid (refFin_any a ha true hfa)
      have RB := Lib.hid (refFin_any b hb false hfb)
      clear hfa hfb ha hb
      go_enter Try.func3, Try.ntmps3
      go_wp2_with fail
      refine (RA.out _).mono ?_
      rintro r w1 ⟨rfl, rfl⟩
      go_wp2_with fail
      refine (RB.out _).mono ?_
      rintro r w1 ⟨rfl, rfl⟩
      go_wp2_with fail
      refine (iawake_any _).mono ?_
      rintro r wz ⟨rfl, hE⟩
      go_wp2
      go_ret
      exact ⟨rfl, hE⟩
    | true => exact ipoints_yes a b ha hb hfa hfb w

theorem ipoints_int (i j : Int) (w : World) (hi0 : 0 ≤ i) (hi1 : i ≤ 18446744073709551615) (hj0 : 0 ≤ j) (hj1 : j ≤ 18446744073709551615) :
    Calls Try.prog 3 #[.int .u64 i, .int .u64 j] w fun e w' => e = .returned (.bool true) ∧ Ext w w' := by
  have h := ipoints_any i.toNat j.toNat (by omega) (by omega) w
  rw [Int.toNat_of_nonneg hi0, Int.toNat_of_nonneg hj0] at h
  exact h
end Go.Proofs.Ytpjfipjmpppjcaa
