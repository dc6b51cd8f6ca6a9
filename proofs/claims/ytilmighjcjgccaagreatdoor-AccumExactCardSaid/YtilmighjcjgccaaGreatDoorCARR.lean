/- What Residual does, the program's and the reference's, in every case. -/
import Derived.Test.YtilmighjcjgccaaGreatDoorCRefADot
import Derived.Test.YtilmighjcjgccaaGreatDoorHi
namespace Go.Proofs.YtilmighjcjgccaaGreatDoor
open Go Go.RowKit

theorem dotR_cases (x y : List Nat) : dotR x y = (some (0, 0), 2) ∨ dotR x y = (some (0, 0), 4) ∨ (x.length = y.length ∧ dtotal (prods x y) ≠ none ∧ dotR x y = (dtotal (prods x y), 0)) := by
  by_cases hl : x.length = y.length
  · by_cases hd : dtotal (prods x y) = none
    · exact Or.inr (Or.inl (by unfold dotR chk chkE; rw [if_neg (by omega), if_pos hd, if_pos hd]))
    · exact Or.inr (Or.inr ⟨hl, hd, by unfold dotR chk chkE; rw [if_neg (by omega), if_neg hd, if_neg hd]⟩)
  · exact Or.inl (by unfold dotR; rw [if_pos hl])

theorem res_some {b : Nat} {x y : List Nat} (hb : finB b = true) (hl : x.length ≤ 1000000) (hlen : x.length = y.length) (hd : dtotal (prods x y) ≠ none) : dsub (fdy b) (dtotal (prods x y)) ≠ none := by
  have fx : x.all finB = true := by
    cases fx : x.all finB with
    | true => rfl
    | false => exact absurd (prods_none hlen (Or.inl fx)) hd
  have fy : y.all finB = true := by
    cases fy : y.all finB with
    | true => rfl
    | false => exact absurd (prods_none hlen (Or.inr fy)) hd
  have e1 := dotF_dy (all_fin fx) (all_fin fy) hl
  have b1 := dotF_lt (all_fin fx) (all_fin fy)
  have f1 := fdy_up hb
  obtain ⟨D, hD⟩ : ∃ D, dotF x y = D := ⟨_, rfl⟩
  obtain ⟨P, hP⟩ : ∃ P, fzs b * 2 ^ low74 = P := ⟨_, rfl⟩
  rw [hD] at e1 b1
  rw [hP] at f1
  have hPb : P.natAbs < 2 ^ (20 + ((52 + low46) + (52 + low46))) := by
    rw [← hP]
    exact Nat.lt_of_lt_of_le (pow_bound (fzs_lt hb) (Nat.le_refl _)) (Nat.pow_le_pow_right (by omega) (by rw [low46_le]; unfold low74; omega))
  have hDb : D.natAbs < 2 ^ (20 + ((52 + low46) + (52 + low46))) := by
    have h2 : x.length * 2 ^ ((52 + low46) + (52 + low46)) ≤ 1000000 * 2 ^ ((52 + low46) + (52 + low46)) := Nat.mul_le_mul_right _ hl
    have h3 : 1000000 * 2 ^ ((52 + low46) + (52 + low46)) < 2 ^ 20 * 2 ^ ((52 + low46) + (52 + low46)) := Nat.mul_lt_mul_of_pos_right (by omega) (Nat.pow_pos (by omega))
    rw [← Nat.pow_add] at h3
    omega
  have hbig : 20 + ((52 + low46) + (52 + low46)) + 1 ≤ 65536 := by rw [low46_le]; omega
  obtain ⟨m, e, h, _⟩ := Is.sub f1 e1 (by omega) (abs_sub_lt hPb hDb) hbig
  intro hn
  have h' : dsub (fdy b) (dtotal (prods x y)) = some (m, e) := h
  rw [hn] at h'
  cases h'

set_option maxRecDepth 100000 in
set_option maxHeartbeats 8000000 in
theorem ares_err (f : Nat) (ao bo : Option Addr) (n m cap cb : Nat) (w : World) (E0 : Int) (hE0 : ¬ E0 = 0)
    (hd : ∀ W, Ext w W → Calls Tryz.prog 67 #[.slice ao n cap, .slice bo m cb] W fun e w' => ∃ v, e = .returned (.tuple #[v, .int .i64 E0]) ∧ Dn w' v (some (0, 0)) ∧ Ext W w') :
    Calls Tryz.prog 69 #[.int .u64 (f : Int), .slice ao n cap, .slice bo m cb] w fun e w' => ∃ v, e = .returned (.tuple #[v, .int .i64 E0]) ∧ Dn w' v (some (0, 0)) ∧ Ext w w' := by
  have CD := Lib.hid hd
  clear hd
  go_enter Tryz.func69, Tryz.ntmps69
  go_upto_region 1 with fail
  obtain ⟨W, hW, hB, hbx, hz⟩ := dbox_new w false false none 0 0 0
  rw [← hW]
  clear hW
  generalize hBe : w.heap.size = B at *
  have HBe := Lib.hid hBe
  have HEX := Lib.hid (show ∀ wx, Below B w wx → Ext w wx from fun wx h => by rw [← hBe] at h; exact h)
  clear hBe
  go_wp2_with fail
  refine (CD.out _ (HEX.out _ hB)).mono ?_
  rintro e w1 ⟨r1, rfl, hr1, hw1⟩
  obtain ⟨xb, xn, xo, xk, xc, xe, rfl⟩ := hr1.parts
  obtain ⟨hE, hE'⟩ := bnext hB (by omega) hw1
  have hbr := hbx.below hw1
  clear hbx hB hz hw1
  go_upto_region 2 with fail
  obtain ⟨V, hV, hVB, hvx, hvz⟩ := dbox_new w1 xb xn xo xk xc xe
  rw [← hV]
  clear hV
  have hr1 := hr1.ext hVB
  have hbr := hbr.below hVB
  obtain ⟨hE, hE'⟩ := bnext hE hE' hVB
  clear hVB
  generalize w1.heap.size = C at *
  have q0 := hbr.c0
  have q1 := hbr.c1
  have q2 := hbr.c2
  have q3 := hbr.c3
  have f0 := hbr.f 0
  have f1 := hbr.f 1
  have f2 := hbr.f 2
  have f3 := hbr.f 3
  have hres := dn_stored hbr (dn_zero V) w hE (Nat.le_refl B)
  have z3 := hbr.stored false false none 0 0 0
  have z0 := z3.c0
  have z1 := z3.c1
  have z2 := z3.c2
  have z4 := z3.c3
  have HRES := Lib.hid hres
  clear hres z3
  go_wp2
  refine bodyPost_ret (v := .tuple #[.agg #[.bool false, .bool false, .slice none 0 0, .int .i64 0], .int .i64 E0]) (by simp [results, Tryz.results69, go_sem, z0, z1, z2, z4]) rfl ⟨_, rfl, ?_, ?_⟩
  · exact HRES.out.1
  · show Below _ _ _; rw [HBe.out]; exact HRES.out.2

set_option maxRecDepth 100000 in
set_option maxHeartbeats 8000000 in
theorem refARes_err (f : Nat) (ao bo : Option Addr) (n m cap cb : Nat) (w : World) (E0 : Int) (hE0 : ¬ E0 = 0)
    (hd : ∀ W, Ext w W → Calls Tryz.prog 68 #[.slice ao n cap, .slice bo m cb] W fun e w' => ∃ v, e = .returned (.tuple #[v, .int .i64 E0]) ∧ Dn w' v (some (0, 0)) ∧ Ext W w') :
    Calls Tryz.prog 70 #[.int .u64 (f : Int), .slice ao n cap, .slice bo m cb] w fun e w' => ∃ v, e = .returned (.tuple #[v, .int .i64 E0]) ∧ Dn w' v (some (0, 0)) ∧ Ext w w' := by
  have CD := Lib.hid hd
  clear hd
  go_enter Tryz.func70, Tryz.ntmps70
  go_upto_region 1 with fail
  obtain ⟨W, hW, hB, hbx, hz⟩ := dbox_new w false false none 0 0 0
  rw [← hW]
  clear hW
  generalize hBe : w.heap.size = B at *
  have HBe := Lib.hid hBe
  have HEX := Lib.hid (show ∀ wx, Below B w wx → Ext w wx from fun wx h => by rw [← hBe] at h; exact h)
  clear hBe
  go_wp2_with fail
  refine (CD.out _ (HEX.out _ hB)).mono ?_
  rintro e w1 ⟨r1, rfl, hr1, hw1⟩
  obtain ⟨xb, xn, xo, xk, xc, xe, rfl⟩ := hr1.parts
  obtain ⟨hE, hE'⟩ := bnext hB (by omega) hw1
  have hbr := hbx.below hw1
  clear hbx hB hz hw1
  go_upto_region 2 with fail
  obtain ⟨V, hV, hVB, hvx, hvz⟩ := dbox_new w1 xb xn xo xk xc xe
  rw [← hV]
  clear hV
  have hr1 := hr1.ext hVB
  have hbr := hbr.below hVB
  obtain ⟨hE, hE'⟩ := bnext hE hE' hVB
  clear hVB
  generalize w1.heap.size = C at *
  have q0 := hbr.c0
  have q1 := hbr.c1
  have q2 := hbr.c2
  have q3 := hbr.c3
  have f0 := hbr.f 0
  have f1 := hbr.f 1
  have f2 := hbr.f 2
  have f3 := hbr.f 3
  have hres := dn_stored hbr (dn_zero V) w hE (Nat.le_refl B)
  have z3 := hbr.stored false false none 0 0 0
  have z0 := z3.c0
  have z1 := z3.c1
  have z2 := z3.c2
  have z4 := z3.c3
  have HRES := Lib.hid hres
  clear hres z3
  go_wp2
  refine bodyPost_ret (v := .tuple #[.agg #[.bool false, .bool false, .slice none 0 0, .int .i64 0], .int .i64 E0]) (by simp [results, Tryz.results70, go_sem, z0, z1, z2, z4]) rfl ⟨_, rfl, ?_, ?_⟩
  · exact HRES.out.1
  · show Below _ _ _; rw [HBe.out]; exact HRES.out.2

set_option maxRecDepth 100000 in
set_option maxHeartbeats 4000000 in
theorem adot_len (ao bo : Option Addr) (n m cap cb : Nat) (w : World) (hnm : ¬ n = m) :
    Calls Tryz.prog 67 #[.slice ao n cap, .slice bo m cb] w fun e w' => ∃ v, e = .returned (.tuple #[v, .int .i64 2]) ∧ Dn w' v (some (0, 0)) ∧ Ext w w' := by
  go_enter Tryz.func67, Tryz.ntmps67
  go_upto_region 1 with fail
  obtain ⟨W, hW, hB, hbx, hz⟩ := dbox_new w false false none 0 0 0
  rw [← hW]
  clear hW
  generalize hBe : w.heap.size = B at *
  have HBe := Lib.hid hBe
  clear hBe
  have q0 := hbx.c0
  have q1 := hbx.c1
  have q2 := hbx.c2
  have q3 := hbx.c3
  have f0 := hbx.f 0
  have f1 := hbx.f 1
  have f2 := hbx.f 2
  have f3 := hbx.f 3
  have hres := dn_stored hbx (dn_zero W) w hB (Nat.le_refl B)
  have z3 := hbx.stored false false none 0 0 0
  have z0 := z3.c0
  have z1 := z3.c1
  have z2 := z3.c2
  have z4 := z3.c3
  have HRES := Lib.hid hres
  clear hres z3
  go_wp2
  refine bodyPost_ret (v := .tuple #[.agg #[.bool false, .bool false, .slice none 0 0, .int .i64 0], .int .i64 2]) (by simp [results, Tryz.results67, go_sem, z0, z1, z2, z4]) rfl ⟨_, rfl, ?_, ?_⟩
  · exact HRES.out.1
  · show Below _ _ _; rw [HBe.out]; exact HRES.out.2

theorem adotR_any (ao bo : Option Addr) (n m cap cb : Nat) (x y : List Nat) (w : World) (h : Fs w ao n cap x) (h' : Fs w bo m cb y) (hT : Table w) (hT6 : Table64 w) (hn : n ≤ 1000000) (D : Dy) (E : Int) (hR : dotR x y = (D, E)) :
    Calls Tryz.prog 67 #[.slice ao n cap, .slice bo m cb] w fun e w' => ∃ v, e = .returned (.tuple #[v, .int .i64 E]) ∧ Dn w' v D ∧ Ext w w' := by
  have hl := h.len
  have hl' := h'.len
  rcases Nat.decEq n m with hnm | hnm
  · unfold dotR at hR
    rw [if_pos (by omega)] at hR
    obtain ⟨rfl, rfl⟩ := Prod.mk.inj hR
    exact adot_len ao bo n m cap cb w hnm
  · subst hnm
    unfold dotR at hR
    rw [if_neg (by omega)] at hR
    obtain ⟨rfl, rfl⟩ := Prod.mk.inj hR
    exact adot_any ao bo n cap cb x y w h h' hT hT6 hn

theorem aresR_any (f : Nat) (hf : f < 18446744073709551616) (ao bo : Option Addr) (n m cap cb : Nat) (x y : List Nat) (w : World) (h : Fs w ao n cap x) (h' : Fs w bo m cb y) (hT : Table w) (hT6 : Table64 w) (hn : n ≤ 1000000) (D : Dy) (E : Int) (hR : resR f x y = (D, E)) :
    Calls Tryz.prog 69 #[.int .u64 (f : Int), .slice ao n cap, .slice bo m cb] w fun e w' => ∃ v, e = .returned (.tuple #[v, .int .i64 E]) ∧ Dn w' v D ∧ Ext w w' := by
  have hl := h.len
  have hl' := h'.len
  have hdot := fun D0 E0 hR0 W hE => adotR_any ao bo n m cap cb x y W (h.below hE) (h'.below hE) (hT.below hE) (hT6.below hE) hn D0 E0 hR0
  unfold resR at hR
  rcases dotR_cases x y with hc | hc | ⟨hlen, hd, hc⟩
  · rw [hc] at hR
    rw [if_pos (by decide)] at hR
    obtain ⟨rfl, rfl⟩ := Prod.mk.inj hR
    exact ares_err f ao bo n m cap cb w 2 (by decide) (fun W hE => hdot _ _ hc W hE)
  · rw [hc] at hR
    rw [if_pos (by decide)] at hR
    obtain ⟨rfl, rfl⟩ := Prod.mk.inj hR
    exact ares_err f ao bo n m cap cb w 4 (by decide) (fun W hE => hdot _ _ hc W hE)
  · rw [hc] at hR
    rw [if_neg (by simp)] at hR
    obtain ⟨rfl, rfl⟩ := Prod.mk.inj hR
    obtain rfl : n = m := by omega
    exact ares_any f hf ao bo n cap cb x y w h h' hT hT6 hn hd _ _ _ rfl rfl rfl

set_option maxRecDepth 100000 in
set_option maxHeartbeats 8000000 in
theorem refARes_yes (f : Nat) (hf : f < 18446744073709551616) (ao bo : Option Addr) (n m cap cb : Nat) (w : World) (hT : Table w) (dp : Dy) (hs : finB f = true → dsub (fdy f) dp ≠ none)
    (hd : ∀ W, Ext w W → Calls Tryz.prog 68 #[.slice ao n cap, .slice bo m cb] W fun e w' => ∃ v, e = .returned (.tuple #[v, .int .i64 0]) ∧ Dn w' v dp ∧ Ext W w') :
    Calls Tryz.prog 70 #[.int .u64 (f : Int), .slice ao n cap, .slice bo m cb] w fun e w' => ∃ v, e = .returned (.tuple #[v, .int .i64 (chkE (dsub (fdy f) dp))]) ∧ Dn w' v (chk (dsub (fdy f) dp)) ∧ Ext w w' := by
  have CD := Lib.hid hd
  have HTT := Lib.hid (fun W (hE : Ext w W) => hT.below hE)
  clear hd hT
  cases ff : finB f with
  | false =>
    have e1 : dsub (fdy f) dp = none := by rw [fdy_none ff]; exact dadd_none _
    have CF := Lib.hid (refFin_any f hf false ff)
    rw [e1]
    show Calls _ _ _ _ fun e w' => ∃ v, e = .returned (.tuple #[v, .int .i64 4]) ∧ Dn w' v (some (0, 0)) ∧ Ext w w'
    clear e1 ff hs
    go_enter Tryz.func70, Tryz.ntmps70
    go_upto_region 1 with fail
    obtain ⟨W, hW, hB, hbx, hz⟩ := dbox_new w false false none 0 0 0
    rw [← hW]
    clear hW
    generalize hBe : w.heap.size = B at *
    have HBe := Lib.hid hBe
    have HEX := Lib.hid (show ∀ wx, Below B w wx → Ext w wx from fun wx h => by rw [← hBe] at h; exact h)
    clear hBe
    go_wp2_with fail
    refine (CD.out _ (HEX.out _ hB)).mono ?_
    rintro e w1 ⟨r1, rfl, hr1, hw1⟩
    obtain ⟨xb, xn, xo, xk, xc, xe, rfl⟩ := hr1.parts
    obtain ⟨hE, hE'⟩ := bnext hB (by omega) hw1
    have hbr := hbx.below hw1
    clear hbx hB hz hw1
    go_upto_region 2 with fail
    obtain ⟨V, hV, hVB, hvx, hvz⟩ := dbox_new w1 xb xn xo xk xc xe
    rw [← hV]
    clear hV
    have hr1 := hr1.ext hVB
    have hbr := hbr.below hVB
    obtain ⟨hE, hE'⟩ := bnext hE hE' hVB
    clear hVB
    generalize w1.heap.size = C at *
    go_wp2_with fail
    refine (CF.out V).mono ?_
    rintro e w2 ⟨rfl, rfl⟩
    have q0 := hbr.c0
    have q1 := hbr.c1
    have q2 := hbr.c2
    have q3 := hbr.c3
    have f0 := hbr.f 0
    have f1 := hbr.f 1
    have f2 := hbr.f 2
    have f3 := hbr.f 3
    have hres := dn_stored hbr (dn_zero V) w hE (Nat.le_refl B)
    have z3 := hbr.stored false false none 0 0 0
    have z0 := z3.c0
    have z1 := z3.c1
    have z2 := z3.c2
    have z4 := z3.c3
    have HRES := Lib.hid hres
    clear hres z3
    go_wp2
    refine bodyPost_ret (v := .tuple #[.agg #[.bool false, .bool false, .slice none 0 0, .int .i64 0], .int .i64 4]) (by simp [results, Tryz.results70, go_sem, z0, z1, z2, z4]) rfl ⟨_, rfl, ?_, ?_⟩
    · exact HRES.out.1
    · show Below _ _ _; rw [HBe.out]; exact HRES.out.2
  | true =>
    have h1 := hs ff
    have e1 : chkE (dsub (fdy f) dp) = 0 ∧ chk (dsub (fdy f) dp) = dsub (fdy f) dp := ⟨if_neg h1, if_neg h1⟩
    have CF := Lib.hid (refFin_any f hf true ff)
    rw [e1.1, e1.2]
    have CO := Lib.hid (fun W (hE : Ext w W) => refOf_any f hf W (HTT.out W hE))
    obtain ⟨df, hdf⟩ : ∃ d, fdy f = d := ⟨_, rfl⟩
    rw [hdf] at CO ⊢
    clear e1 h1 ff hs hdf
    go_enter Tryz.func70, Tryz.ntmps70
    go_upto_region 1 with fail
    obtain ⟨W, hW, hB, hbx, hz⟩ := dbox_new w false false none 0 0 0
    rw [← hW]
    clear hW
    generalize hBe : w.heap.size = B at *
    have HBe := Lib.hid hBe
    have HEX := Lib.hid (show ∀ wx, Below B w wx → Ext w wx from fun wx h => by rw [← hBe] at h; exact h)
    clear hBe
    go_wp2_with fail
    refine (CD.out _ (HEX.out _ hB)).mono ?_
    rintro e w1 ⟨r1, rfl, hr1, hw1⟩
    obtain ⟨xb, xn, xo, xk, xc, xe, rfl⟩ := hr1.parts
    obtain ⟨hE, hE'⟩ := bnext hB (by omega) hw1
    have hbr := hbx.below hw1
    clear hbx hB hz hw1
    go_upto_region 2 with fail
    obtain ⟨V, hV, hVB, hvx, hvz⟩ := dbox_new w1 xb xn xo xk xc xe
    rw [← hV]
    clear hV
    have hr1 := hr1.ext hVB
    have hbr := hbr.below hVB
    obtain ⟨hE, hE'⟩ := bnext hE hE' hVB
    clear hVB
    generalize w1.heap.size = C at *
    go_wp2_with fail
    refine (CF.out V).mono ?_
    rintro e w2 ⟨rfl, rfl⟩
    have hex : Ext V V.drew := (Below.refl _ _).drew
    have HV0 := Lib.hid (HEX.out _ hE)
    have C1 := Lib.hid (fun wx (hx : Ext V wx) => CO.out wx (Ext.trans HV0.out hx))
    have HTV := Lib.hid (fun wx (hx : Ext V wx) => HTT.out wx (Ext.trans HV0.out hx))
    have HC := Lib.hid (show ∀ wx, Ext V wx → wx.cell? ⟨C, 0, none⟩ = some (.bool xb) ∧ wx.cell? ⟨C, 1, none⟩ = some (.bool xn) ∧ wx.cell? ⟨C, 2, none⟩ = some (.slice xo xk xc) ∧ wx.cell? ⟨C, 3, none⟩ = some (.int .i64 xe) from fun wx h => ⟨(hvx.ext h).c0, (hvx.ext h).c1, (hvx.ext h).c2, (hvx.ext h).c3⟩)
    obtain ⟨k0, k1, k2, k3⟩ := HC.out V (Ext.refl _)
    go_upto_region 6 with fail
    go_region_with (first
      | (go_at_call 55; (with_reducible refine (C1.out _ (by assumption)).mono ?_); rintro e w2 ⟨v1, rfl, hv1, hw2⟩; have ex1 : Ext V w2 := Ext.trans hex hw2; obtain ⟨k0, k1, k2, k3⟩ := HC.out w2 ex1)
      | (go_at_call 28; refine (ref_dsub_any _ _ _ _ _ (by exact hv1.dl) (by exact (hr1.ext ex1).dl) (by exact HTV.out _ ex1)).mono ?_; rintro e w3 ⟨v3, rfl, hv3, hw3⟩; have ex2 : Ext V w3 := Ext.trans ex1 hw3; obtain ⟨rb, rn, ro, rk, rc, re, rfl⟩ := hv3.parts; have bx := hbr.ext ex2; have p0 := bx.c0; have p1 := bx.c1; have p2 := bx.c2; have p3 := bx.c3; have f0 := bx.f 0; have f1 := bx.f 1; have f2 := bx.f 2; have f3 := bx.f 3))
    all_goals
      have hres := dn_stored bx hv3 w (bnext hE (by omega) ex2).1 (Nat.le_refl B)
      have z3 := bx.stored rb rn ro rk rc re
      have z0 := z3.c0
      have z1 := z3.c1
      have z2 := z3.c2
      have z4 := z3.c3
      have HRES := Lib.hid hres; clear hres z3
      go_wp2
      refine bodyPost_ret (v := .tuple #[.agg #[.bool rb, .bool rn, .slice ro rk rc, .int .i64 re], .int .i64 0]) (by simp [results, Tryz.results70, go_sem, z0, z1, z2, z4]) rfl ⟨_, rfl, HRES.out.1, ?_⟩
      show Below _ _ _; rw [HBe.out]; exact HRES.out.2

theorem refARes_any (f : Nat) (hf : f < 18446744073709551616) (ao bo : Option Addr) (n m cap cb : Nat) (x y : List Nat) (w : World) (h : Fs w ao n cap x) (h' : Fs w bo m cb y) (hT : Table w) (hn : n ≤ 1000000) (D : Dy) (E : Int) (hR : resR f x y = (D, E)) :
    Calls Tryz.prog 70 #[.int .u64 (f : Int), .slice ao n cap, .slice bo m cb] w fun e w' => ∃ v, e = .returned (.tuple #[v, .int .i64 E]) ∧ Dn w' v D ∧ Ext w w' := by
  have hl := h.len
  have hl' := h'.len
  have hdot := fun D0 E0 hR0 W hE => refADot_any ao bo n m cap cb x y W (h.below hE) (h'.below hE) (hT.below hE) hn D0 E0 hR0
  unfold resR at hR
  rcases dotR_cases x y with hc | hc | ⟨hlen, hd, hc⟩
  · rw [hc] at hR
    rw [if_pos (by decide)] at hR
    obtain ⟨rfl, rfl⟩ := Prod.mk.inj hR
    exact refARes_err f ao bo n m cap cb w 2 (by decide) (fun W hE => hdot _ _ hc W hE)
  · rw [hc] at hR
    rw [if_pos (by decide)] at hR
    obtain ⟨rfl, rfl⟩ := Prod.mk.inj hR
    exact refARes_err f ao bo n m cap cb w 4 (by decide) (fun W hE => hdot _ _ hc W hE)
  · have hdd := hdot _ _ hc
    rw [hc] at hR
    rw [if_neg (by simp)] at hR
    obtain ⟨rfl, rfl⟩ := Prod.mk.inj hR
    exact refARes_yes f hf ao bo n m cap cb w hT _ (fun ff => res_some ff (by omega) hlen hd) hdd
end Go.Proofs.YtilmighjcjgccaaGreatDoor
