import Derived.Test.YtecaaklbhhjcjaaGreatDoorIRelU37
import Derived.Test.YtecaaklbhhjcjaaGreatDoorIRelU27
import Derived.Test.YtecaaklbhhjcjaaGreatDoorIRelU38
namespace Go.Proofs.YtecaaklbhhjcjaaGreatDoor
open Go.RowKit

set_option maxRecDepth 100000 in
set_option maxHeartbeats 4000000 in
theorem refMag_no (a b : Nat) (ha : a < 18446744073709551616) (hb : b < 18446744073709551616) (h1 : validF a b = false) (w : World) :
    Calls Tryz.prog 50 #[.agg #[.int .u64 (a : Int), .int .u64 (b : Int)]] w fun e w' => e = .returned (.int .u64 9221120237041090560) ∧ Ext w w' := by
  have C1 := Lib.hid (fun w => refValid_any a b ha hb false h1 w)
  clear h1 ha hb
  go_enter Tryz.func50, Tryz.ntmps50
  go_upto_region 1 with fail
  obtain ⟨W, hW, hB, hx, hsz⟩ := ibox_new w a b
  rw [← hW]
  clear hW
  have HB := Lib.hid hB
  generalize w.heap.size = B at hx ⊢
  clear hB hsz
  have HC := Lib.hid (show ∀ wx, Ext W wx → wx.cell? ⟨B, 0, none⟩ = some (.int .u64 (a : Int)) ∧ wx.cell? ⟨B, 1, none⟩ = some (.int .u64 (b : Int)) from fun wx h => ⟨(hx.below h).c0, (hx.below h).c1⟩)
  clear hx
  have st : Ext W W := Ext.refl _
  obtain ⟨a0, a1⟩ := HC.out _ st
  go_wp2_with fail
  refine (C1.out _).mono ?_
  rintro r w1 ⟨rfl, hE⟩
  have st : Ext W w1 := Ext.trans st hE
  clear hE a0 a1
  obtain ⟨a0, a1⟩ := HC.out _ st
  have HF := Lib.hid (HB.out.trans st)
  go_wp2
  go_ret
  exact ⟨rfl, HF.out⟩

set_option maxRecDepth 100000 in
set_option maxHeartbeats 4000000 in
theorem refMig_no (a b : Nat) (ha : a < 18446744073709551616) (hb : b < 18446744073709551616) (h1 : validF a b = false) (w : World) :
    Calls Tryz.prog 52 #[.agg #[.int .u64 (a : Int), .int .u64 (b : Int)]] w fun e w' => e = .returned (.int .u64 9221120237041090560) ∧ Ext w w' := by
  have C1 := Lib.hid (fun w => refValid_any a b ha hb false h1 w)
  clear h1 ha hb
  go_enter Tryz.func52, Tryz.ntmps52
  go_upto_region 1 with fail
  obtain ⟨W, hW, hB, hx, hsz⟩ := ibox_new w a b
  rw [← hW]
  clear hW
  have HB := Lib.hid hB
  generalize w.heap.size = B at hx ⊢
  clear hB hsz
  have HC := Lib.hid (show ∀ wx, Ext W wx → wx.cell? ⟨B, 0, none⟩ = some (.int .u64 (a : Int)) ∧ wx.cell? ⟨B, 1, none⟩ = some (.int .u64 (b : Int)) from fun wx h => ⟨(hx.below h).c0, (hx.below h).c1⟩)
  clear hx
  have st : Ext W W := Ext.refl _
  obtain ⟨a0, a1⟩ := HC.out _ st
  go_wp2_with fail
  refine (C1.out _).mono ?_
  rintro r w1 ⟨rfl, hE⟩
  have st : Ext W w1 := Ext.trans st hE
  clear hE a0 a1
  obtain ⟨a0, a1⟩ := HC.out _ st
  have HF := Lib.hid (HB.out.trans st)
  go_wp2
  go_ret
  exact ⟨rfl, HF.out⟩

set_option maxRecDepth 100000 in
set_option maxHeartbeats 4000000 in
theorem refMid_no (a b : Nat) (ha : a < 18446744073709551616) (hb : b < 18446744073709551616) (h1 : validF a b = false) (w : World) :
    Calls Tryz.prog 46 #[.agg #[.int .u64 (a : Int), .int .u64 (b : Int)]] w fun e w' => e = .returned (.int .u64 9221120237041090560) ∧ Ext w w' := by
  have C1 := Lib.hid (fun w => refValid_any a b ha hb false h1 w)
  clear h1 ha hb
  go_enter Tryz.func46, Tryz.ntmps46
  go_upto_region 1 with fail
  obtain ⟨W, hW, hB, hx, hsz⟩ := ibox_new w a b
  rw [← hW]
  clear hW
  have HB := Lib.hid hB
  generalize w.heap.size = B at hx ⊢
  clear hB hsz
  have HC := Lib.hid (show ∀ wx, Ext W wx → wx.cell? ⟨B, 0, none⟩ = some (.int .u64 (a : Int)) ∧ wx.cell? ⟨B, 1, none⟩ = some (.int .u64 (b : Int)) from fun wx h => ⟨(hx.below h).c0, (hx.below h).c1⟩)
  clear hx
  have st : Ext W W := Ext.refl _
  obtain ⟨a0, a1⟩ := HC.out _ st
  go_wp2_with fail
  refine (C1.out _).mono ?_
  rintro r w1 ⟨rfl, hE⟩
  have st : Ext W w1 := Ext.trans st hE
  clear hE a0 a1
  obtain ⟨a0, a1⟩ := HC.out _ st
  have HF := Lib.hid (HB.out.trans st)
  go_wp2
  go_ret
  exact ⟨rfl, HF.out⟩

set_option maxRecDepth 100000 in
set_option maxHeartbeats 4000000 in
theorem refRad_no (a b : Nat) (ha : a < 18446744073709551616) (hb : b < 18446744073709551616) (h1 : validF a b = false) (w : World) :
    Calls Tryz.prog 48 #[.agg #[.int .u64 (a : Int), .int .u64 (b : Int)]] w fun e w' => e = .returned (.int .u64 9221120237041090560) ∧ Ext w w' := by
  have C1 := Lib.hid (fun w => refValid_any a b ha hb false h1 w)
  clear h1 ha hb
  go_enter Tryz.func48, Tryz.ntmps48
  go_upto_region 1 with fail
  obtain ⟨W, hW, hB, hx, hsz⟩ := ibox_new w a b
  rw [← hW]
  clear hW
  have HB := Lib.hid hB
  generalize w.heap.size = B at hx ⊢
  clear hB hsz
  have HC := Lib.hid (show ∀ wx, Ext W wx → wx.cell? ⟨B, 0, none⟩ = some (.int .u64 (a : Int)) ∧ wx.cell? ⟨B, 1, none⟩ = some (.int .u64 (b : Int)) from fun wx h => ⟨(hx.below h).c0, (hx.below h).c1⟩)
  clear hx
  have st : Ext W W := Ext.refl _
  obtain ⟨a0, a1⟩ := HC.out _ st
  go_wp2_with fail
  refine (C1.out _).mono ?_
  rintro r w1 ⟨rfl, hE⟩
  have st : Ext W w1 := Ext.trans st hE
  clear hE a0 a1
  obtain ⟨a0, a1⟩ := HC.out _ st
  have HF := Lib.hid (HB.out.trans st)
  go_wp2
  go_ret
  exact ⟨rfl, HF.out⟩

theorem sgn_neg {p q : Int} : (sgn3 p q < 0 → p < q) ∧ (¬ sgn3 p q < 0 → ¬ p < q) := by unfold sgn3; split <;> (try split) <;> omega
set_option maxRecDepth 100000 in
set_option maxHeartbeats 8000000 in
theorem refMag_yes (a b : Nat) (g : Good a b) (w : World) :
    Calls Tryz.prog 50 #[.agg #[.int .u64 (a : Int), .int .u64 (b : Int)]] w fun e w' => e = .returned (.int .u64 ((magF a b : Nat) : Int)) ∧ Ext w w' := by
  have C1 := Lib.hid (fun w => refValid_any a b g.l1 g.l2 true g.valid w)
  have hp := mag_pick g.n1 g.n2
  obtain ⟨Q, hQ⟩ : ∃ Q : Int, ((magF a b : Nat) : Int) = Q := ⟨_, rfl⟩
  rw [hp] at hQ
  rw [hp, hQ]
  have CA := refAbsF_any a g.l1
  have CB := refAbsF_any b g.l2
  have l1 := abs_lt64 a
  have l2 := abs_lt64 b
  have n1 := (abs_rank g.n1).1
  have n2 := (abs_rank g.n2).1
  generalize fabsF a = p at *
  generalize fabsF b = q at *
  have CA := Lib.hid CA
  have CB := Lib.hid CB
  obtain ⟨s, hs⟩ : ∃ s, sgn3 (frank p) (frank q) = s := ⟨_, rfl⟩
  have CC := Lib.hid (fun w => refFCmp_any p q l1 l2 s true (fcmp_num n1 n2 hs) w)
  have HQ1 := Lib.hid (show s < 0 → ((q : Nat) : Int) = Q from fun h => by rw [← hQ, if_pos (sgn_neg.1 (by rw [hs]; exact h))])
  have HQ2 := Lib.hid (show ¬ s < 0 → ((p : Nat) : Int) = Q from fun h => by rw [← hQ, if_neg (sgn_neg.2 (by rw [hs]; exact h))])
  clear g hp hQ l1 l2 n1 n2 hs
  go_enter Tryz.func50, Tryz.ntmps50
  go_upto_region 1 with fail
  obtain ⟨W, hW, hB, hx, hsz⟩ := ibox_new w a b
  rw [← hW]
  clear hW
  have HB := Lib.hid hB
  generalize w.heap.size = B at hx ⊢
  clear hB hsz
  have HC := Lib.hid (show ∀ wx, Ext W wx → wx.cell? ⟨B, 0, none⟩ = some (.int .u64 (a : Int)) ∧ wx.cell? ⟨B, 1, none⟩ = some (.int .u64 (b : Int)) from fun wx h => ⟨(hx.below h).c0, (hx.below h).c1⟩)
  clear hx
  have st : Ext W W := Ext.refl _
  obtain ⟨a0, a1⟩ := HC.out _ st
  go_wp2_with fail
  refine (C1.out _).mono ?_
  rintro r w1 ⟨rfl, hE⟩
  have st : Ext W w1 := Ext.trans st hE
  clear hE a0 a1
  obtain ⟨a0, a1⟩ := HC.out _ st
  go_upto_region 3 with fail
  have st : Ext W _ := st.drew
  go_region_held3 (fun wx => wx.cell? ⟨B, 0, none⟩ = some (.int .u64 (a : Int)) ∧ wx.cell? ⟨B, 1, none⟩ = some (.int .u64 (b : Int)))
    (first | exact HC.out _ (by assumption))
    (first
      | (go_at_call 114; (with_reducible refine (CA.out _).mono ?_); rintro r wn ⟨rfl, rfl⟩)
      | (go_at_call 114; (with_reducible refine (CB.out _).mono ?_); rintro r wn ⟨rfl, rfl⟩)
    )
  clear a0 a1
  go_wp2_with fail
  refine (CC.out _).mono ?_
  rintro r w5 ⟨rfl, hE⟩
  have st : Ext W w5 := Ext.trans st hE
  clear hE
  by_cases hs : s < 0
  · obtain rfl : ((q : Nat) : Int) = Q := HQ1.out hs
    have HF := Lib.hid (HB.out.trans st)
    go_wp2
    go_ret
    exact ⟨rfl, HF.out⟩
  · obtain rfl : ((p : Nat) : Int) = Q := HQ2.out (by omega)
    have HF := Lib.hid (HB.out.trans st)
    go_wp2
    go_ret
    exact ⟨rfl, HF.out⟩

set_option maxRecDepth 100000 in
set_option maxHeartbeats 8000000 in
theorem refMig_yes (a b : Nat) (g : Good a b) (w : World) (hT : Table w) :
    Calls Tryz.prog 52 #[.agg #[.int .u64 (a : Int), .int .u64 (b : Int)]] w fun e w' => e = .returned (.int .u64 ((migF a b : Nat) : Int)) ∧ Ext w w' := by
  have C1 := Lib.hid (fun w => refValid_any a b g.l1 g.l2 true g.valid w)
  have hp := mig_pick g.n1 g.n2
  obtain ⟨Q, hQ⟩ : ∃ Q : Int, ((migF a b : Nat) : Int) = Q := ⟨_, rfl⟩
  rw [hp] at hQ
  rw [hp, hQ]
  have NA := Lib.hid (fun wx (h : Ext w wx) => refNumOf_any a g.l1 _ _ rfl rfl wx (hT.below h))
  have NB := Lib.hid (fun wx (h : Ext w wx) => refNumOf_any b g.l2 _ _ rfl rfl wx (hT.below h))
  obtain ⟨sa, hsa⟩ : ∃ s, sgn3 (frank a) 0 = s := ⟨_, rfl⟩
  obtain ⟨sb, hsb⟩ : ∃ s, sgn3 (frank b) 0 = s := ⟨_, rfl⟩
  have SA := Lib.hid (fun v wx (h : Ext w wx) hv => refSgN_any v (numI a) (numD a) sa ((sgN_num g.l1 g.n1).trans hsa) wx hv (hT.below h))
  have SB := Lib.hid (fun v wx (h : Ext w wx) hv => refSgN_any v (numI b) (numD b) sb ((sgN_num g.l2 g.n2).trans hsb) wx hv (hT.below h))
  have ha : (sa ≤ 0 ↔ frank a ≤ 0) := by rw [← hsa]; unfold sgn3; split <;> (try split) <;> omega
  have hb : (0 ≤ sb ↔ 0 ≤ frank b) := by rw [← hsb]; unfold sgn3; split <;> (try split) <;> omega
  have CA := refAbsF_any a g.l1
  have CB := refAbsF_any b g.l2
  have l1 := abs_lt64 a
  have l2 := abs_lt64 b
  have n1 := (abs_rank g.n1).1
  have n2 := (abs_rank g.n2).1
  generalize fabsF a = p at *
  generalize fabsF b = q at *
  have CA := Lib.hid CA
  have CB := Lib.hid CB
  obtain ⟨s, hs⟩ : ∃ s, sgn3 (frank p) (frank q) = s := ⟨_, rfl⟩
  have CC := Lib.hid (fun w => refFCmp_any p q l1 l2 s true (fcmp_num n1 n2 hs) w)
  have HQ0 := Lib.hid (show sa ≤ 0 → 0 ≤ sb → (0 : Int) = Q from fun h1 h2 => by rw [← hQ, if_pos ⟨ha.1 h1, hb.1 h2⟩]; rfl)
  have HQ1 := Lib.hid (show ¬ (sa ≤ 0 ∧ 0 ≤ sb) → s < 0 → ((p : Nat) : Int) = Q from fun h0 h => by rw [← hQ, if_neg (fun h => h0 ⟨ha.2 h.1, hb.2 h.2⟩), if_pos (sgn_neg.1 (by rw [hs]; exact h))])
  have HQ2 := Lib.hid (show ¬ (sa ≤ 0 ∧ 0 ≤ sb) → ¬ s < 0 → ((q : Nat) : Int) = Q from fun h0 h => by rw [← hQ, if_neg (fun h => h0 ⟨ha.2 h.1, hb.2 h.2⟩), if_neg (sgn_neg.2 (by rw [hs]; exact h))])
  clear g hp hQ l1 l2 n1 n2 hs hsa hsb ha hb hT
  go_enter Tryz.func52, Tryz.ntmps52
  go_upto_region 1 with fail
  obtain ⟨W, hW, hB, hx, hsz⟩ := ibox_new w a b
  rw [← hW]
  clear hW
  have HB := Lib.hid hB
  generalize w.heap.size = B at hx ⊢
  clear hB hsz
  have HC := Lib.hid (show ∀ wx, Ext W wx → wx.cell? ⟨B, 0, none⟩ = some (.int .u64 (a : Int)) ∧ wx.cell? ⟨B, 1, none⟩ = some (.int .u64 (b : Int)) from fun wx h => ⟨(hx.below h).c0, (hx.below h).c1⟩)
  clear hx
  have st : Ext W W := Ext.refl _
  obtain ⟨a0, a1⟩ := HC.out _ st
  go_wp2_with fail
  refine (C1.out _).mono ?_
  rintro r w1 ⟨rfl, hE⟩
  have st : Ext W w1 := Ext.trans st hE
  clear hE a0 a1
  obtain ⟨a0, a1⟩ := HC.out _ st
  go_wp2_with fail
  refine (NA.out _ (Ext.trans HB.out st)).mono ?_
  rintro r w2 ⟨va, rfl, hva, hE⟩
  have st : Ext W w2 := Ext.trans st hE
  clear hE a0 a1
  go_wp2_with fail
  refine (SA.out _ _ (Ext.trans HB.out st) hva).mono ?_
  rintro r w3 ⟨rfl, hE⟩
  have st : Ext W w3 := Ext.trans st hE
  clear hE hva
  obtain ⟨a0, a1⟩ := HC.out _ st
  by_cases h1 : sa ≤ 0
  · go_wp2_with fail
    refine (NB.out _ (Ext.trans HB.out st)).mono ?_
    rintro r w4 ⟨vb, rfl, hvb, hE⟩
    have st : Ext W w4 := Ext.trans st hE
    clear hE a0 a1
    go_wp2_with fail
    refine (SB.out _ _ (Ext.trans HB.out st) hvb).mono ?_
    rintro r w6 ⟨rfl, hE⟩
    have st : Ext W w6 := Ext.trans st hE
    clear hE hvb
    obtain ⟨a0, a1⟩ := HC.out _ st
    by_cases h2 : 0 ≤ sb
    · have hg : sb ≥ 0 := h2
      obtain rfl : (0 : Int) = Q := HQ0.out h1 h2
      have HF := Lib.hid (HB.out.trans st)
      go_wp2
      go_ret
      exact ⟨rfl, HF.out⟩
    · have hg : ¬ sb ≥ 0 := h2
      have HQ1 := Lib.hid (HQ1.out (fun h => h2 h.2))
      have HQ2 := Lib.hid (HQ2.out (fun h => h2 h.2))
      go_upto_region 5 with fail
      have st : Ext W _ := st.drew
      go_region_held3 (fun wx => wx.cell? ⟨B, 0, none⟩ = some (.int .u64 (a : Int)) ∧ wx.cell? ⟨B, 1, none⟩ = some (.int .u64 (b : Int)))
        (first | exact HC.out _ (by assumption))
        (first
          | (go_at_call 114; (with_reducible refine (CA.out _).mono ?_); rintro r wn ⟨rfl, rfl⟩)
          | (go_at_call 114; (with_reducible refine (CB.out _).mono ?_); rintro r wn ⟨rfl, rfl⟩)
        )
      clear a0 a1
      go_wp2_with fail
      refine (CC.out _).mono ?_
      rintro r w5 ⟨rfl, hE⟩
      have st : Ext W w5 := Ext.trans st hE
      clear hE
      by_cases hs : s < 0
      · obtain rfl : ((p : Nat) : Int) = Q := HQ1.out hs
        have HF := Lib.hid (HB.out.trans st)
        go_wp2
        go_ret
        exact ⟨rfl, HF.out⟩
      · obtain rfl : ((q : Nat) : Int) = Q := HQ2.out (by omega)
        have HF := Lib.hid (HB.out.trans st)
        go_wp2
        go_ret
        exact ⟨rfl, HF.out⟩
  · have HQ1 := Lib.hid (HQ1.out (fun h => h1 h.1))
    have HQ2 := Lib.hid (HQ2.out (fun h => h1 h.1))
    go_upto_region 5 with fail
    have st : Ext W _ := st.drew
    go_region_held3 (fun wx => wx.cell? ⟨B, 0, none⟩ = some (.int .u64 (a : Int)) ∧ wx.cell? ⟨B, 1, none⟩ = some (.int .u64 (b : Int)))
      (first | exact HC.out _ (by assumption))
      (first
        | (go_at_call 114; (with_reducible refine (CA.out _).mono ?_); rintro r wn ⟨rfl, rfl⟩)
        | (go_at_call 114; (with_reducible refine (CB.out _).mono ?_); rintro r wn ⟨rfl, rfl⟩)
      )
    clear a0 a1
    go_wp2_with fail
    refine (CC.out _).mono ?_
    rintro r w5 ⟨rfl, hE⟩
    have st : Ext W w5 := Ext.trans st hE
    clear hE
    by_cases hs : s < 0
    · obtain rfl : ((p : Nat) : Int) = Q := HQ1.out hs
      have HF := Lib.hid (HB.out.trans st)
      go_wp2
      go_ret
      exact ⟨rfl, HF.out⟩
    · obtain rfl : ((q : Nat) : Int) = Q := HQ2.out (by omega)
      have HF := Lib.hid (HB.out.trans st)
      go_wp2
      go_ret
      exact ⟨rfl, HF.out⟩

set_option maxRecDepth 100000 in
set_option maxHeartbeats 8000000 in
theorem refMid_yes (a b : Nat) (g : Good a b) (w : World) (hT : Table w) :
    Calls Tryz.prog 46 #[.agg #[.int .u64 (a : Int), .int .u64 (b : Int)]] w fun e w' => e = .returned (.int .u64 ((midF a b : Nat) : Int)) ∧ Ext w w' := by
  have C1 := Lib.hid (fun w => refValid_any a b g.l1 g.l2 true g.valid w)
  have ha := g.l1
  have hb := g.l2
  obtain ⟨Q, hQ⟩ : ∃ Q : Int, ((midF a b : Nat) : Int) = Q := ⟨_, rfl⟩
  rw [hQ]
  unfold midF at hQ
  have CN := Lib.hid (fun w => refNegF_any 9218868437227405311 (by decide) w)
  rw [show fnegF 9218868437227405311 = 18442240474082181119 by decide] at CN
  obtain ⟨X, hX⟩ : ∃ X, fdy a = X := ⟨_, rfl⟩
  obtain ⟨Y, hY⟩ : ∃ Y, fdy b = Y := ⟨_, rfl⟩
  have CO1 := Lib.hid (fun wx (h : Ext w wx) => refOf_any a ha wx (hT.below h))
  have CO2 := Lib.hid (fun wx (h : Ext w wx) => refOf_any b hb wx (hT.below h))
  have HTW := Lib.hid (fun wx (h : Ext w wx) => hT.below h)
  rw [hX] at CO1 hQ
  rw [hY] at CO2 hQ
  obtain ⟨S, hS⟩ : ∃ S, dadd X Y = S := ⟨_, rfl⟩
  rw [hS] at hQ
  obtain ⟨U, hU⟩ : ∃ U, dscale S (-1) = U := ⟨_, rfl⟩
  rw [hU] at hQ
  have HS := Lib.hid hS
  have HU := Lib.hid hU
  have HQ := Lib.hid hQ
  have aI : ((a : Int) == 18442240474082181120) = decide (a = 18442240474082181120) := by
    by_cases h : a = 18442240474082181120
    · rw [decide_eq_true h, h]; rfl
    · rw [decide_eq_false h, beq_eq_false_iff_ne]; omega
  have bI : ((b : Int) == 9218868437227405312) = decide (b = 9218868437227405312) := by
    by_cases h : b = 9218868437227405312
    · rw [decide_eq_true h, h]; rfl
    · rw [decide_eq_false h, beq_eq_false_iff_ne]; omega
  clear g ha hb hX hY hS hU hQ hT
  go_enter Tryz.func46, Tryz.ntmps46
  go_upto_region 1 with fail
  obtain ⟨W, hW, hB, hx, hsz⟩ := ibox_new w a b
  rw [← hW]
  clear hW
  have HB := Lib.hid hB
  generalize w.heap.size = B at hx ⊢
  clear hB hsz
  have HC := Lib.hid (show ∀ wx, Ext W wx → wx.cell? ⟨B, 0, none⟩ = some (.int .u64 (a : Int)) ∧ wx.cell? ⟨B, 1, none⟩ = some (.int .u64 (b : Int)) from fun wx h => ⟨(hx.below h).c0, (hx.below h).c1⟩)
  clear hx
  have st : Ext W W := Ext.refl _
  obtain ⟨a0, a1⟩ := HC.out _ st
  go_wp2_with fail
  refine (C1.out _).mono ?_
  rintro r w1 ⟨rfl, hE⟩
  have st : Ext W w1 := Ext.trans st hE
  clear hE a0 a1
  obtain ⟨a0, a1⟩ := HC.out _ st
  by_cases hA : a = 18442240474082181120
  · have a2 : ((a : Int) == 18442240474082181120) = true := by rw [aI, decide_eq_true hA]
    by_cases hD : b = 9218868437227405312
    · have b2 : ((b : Int) == 9218868437227405312) = true := by rw [bI, decide_eq_true hD]
      obtain rfl : (0 : Int) = Q := by rw [← HQ.out, if_pos hA, if_pos hD]; rfl
      clear hA hD HQ aI bI
      have HF := Lib.hid (HB.out.trans st)
      go_wp2
      go_ret
      exact ⟨rfl, HF.out⟩
    · have b2 : ((b : Int) == 9218868437227405312) = false := by rw [bI, decide_eq_false hD]
      obtain rfl : (18442240474082181119 : Int) = Q := by rw [← HQ.out, if_pos hA, if_neg hD]; rfl
      clear hA hD HQ aI bI
      go_wp2_with fail
      refine (CN.out _).mono ?_
      rintro r w7 ⟨rfl, rfl⟩
      have HF := Lib.hid (HB.out.trans st)
      go_wp2
      go_ret
      exact ⟨rfl, HF.out⟩
  · have a2 : ((a : Int) == 18442240474082181120) = false := by rw [aI, decide_eq_false hA]
    by_cases hD : b = 9218868437227405312
    · have b2 : ((b : Int) == 9218868437227405312) = true := by rw [bI, decide_eq_true hD]
      obtain rfl : (9218868437227405311 : Int) = Q := by rw [← HQ.out, if_neg hA, if_pos hD]; rfl
      clear hA hD HQ aI bI
      have HF := Lib.hid (HB.out.trans st)
      go_wp2
      go_ret
      exact ⟨rfl, HF.out⟩
    · have b2 : ((b : Int) == 9218868437227405312) = false := by rw [bI, decide_eq_false hD]
      have HQ2 := Lib.hid (show ((plainF (frdF U 0) : Nat) : Int) = Q by rw [← HQ.out, if_neg hA, if_neg hD])
      clear hA hD HQ aI bI
      go_upto_region 9 with fail
      have st : Ext W _ := st.drew
      go_region_held3 (fun wx => wx.cell? ⟨B, 0, none⟩ = some (.int .u64 (a : Int)) ∧ wx.cell? ⟨B, 1, none⟩ = some (.int .u64 (b : Int)))
        (first | exact HC.out _ (by assumption))
        (first
          | (go_at_call 109; (with_reducible refine (CO1.out _ (Ext.trans HB.out (by assumption))).mono ?_); rintro r wn ⟨v1, rfl, h1, hE⟩; have st : Ext W wn := Ext.trans (by assumption) hE; clear hE)
          | (go_at_call 109; (with_reducible refine (CO2.out _ (Ext.trans HB.out (by assumption))).mono ?_); rintro r wn ⟨v2, rfl, h2, hE⟩; have h1 := h1.ext hE; have st : Ext W wn := Ext.trans (by assumption) hE; clear hE)
          | (go_at_call 108; (refine (ref_dadd_any _ _ _ _ _ (by exact h1.dl) (by exact h2.dl) (HTW.out _ (Ext.trans HB.out (by assumption)))).mono ?_); rintro r wn ⟨v3, rfl, h3, hE⟩; have st : Ext W wn := Ext.trans (by assumption) hE; rw [HS.out] at h3; clear hE)
          | (go_at_call 107; (refine (ref_dscale_any _ _ (-1) _ (by exact h3.dl) (by omega) (by omega) (HTW.out _ (Ext.trans HB.out (by assumption)))).mono ?_); rintro r wn ⟨v4, rfl, h4, hE⟩; have st : Ext W wn := Ext.trans (by assumption) hE; rw [HU.out] at h4; clear hE)
          | (go_at_call 106; (refine (refRound_any _ _ 0 _ (by exact h4.dl) (HTW.out _ (Ext.trans HB.out (by assumption)))).mono ?_); rintro r wk ⟨rfl, hE⟩; have stk : Ext W wk := Ext.trans (by assumption) hE; clear hE)
          | (go_at_call 79; (refine (refPlus_any _ _).mono ?_); rintro r wl ⟨rfl, rfl⟩))
      have HF := Lib.hid (HB.out.trans stk)
      go_wp2
      go_ret
      exact ⟨by rw [← HQ2.out]; rfl, HF.out⟩
end Go.Proofs.YtecaaklbhhjcjaaGreatDoor
