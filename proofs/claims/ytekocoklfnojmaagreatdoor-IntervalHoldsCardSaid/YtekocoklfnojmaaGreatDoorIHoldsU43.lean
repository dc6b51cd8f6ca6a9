import Derived.Test.YtekocoklfnojmaaGreatDoorIHoldsU39
namespace Go.Proofs.YtekocoklfnojmaaGreatDoor
open Go.RowKit

theorem fbA (V : World) (x y : Nat) : FB (V.alloc (.cells #[.int .u64 (x : Int), .int .u64 (y : Int)] 23)) V.heap.size [x, y] := heap_alloc_new V _
theorem fbB (V : World) (x y : Nat) (o : Obj) : FB ((V.alloc (.cells #[.int .u64 (x : Int), .int .u64 (y : Int)] 23)).alloc o) V.heap.size [x, y] := (fbA V x y).below ((Below.refl _ _).alloc (Nat.le_refl _) _)
theorem fbAd (V : World) (x y : Nat) : FB (V.alloc (.cells #[.int .u64 (x : Int), .int .u64 (y : Int)] 23)).drew V.heap.size [x, y] := fbA V x y
theorem fbBd (V : World) (x y : Nat) (o : Obj) : FB ((V.alloc (.cells #[.int .u64 (x : Int), .int .u64 (y : Int)] 23)).alloc o).drew V.heap.size [x, y] := fbB V x y o
theorem eA {V w : World} (h : Ext V w) (o : Obj) : Ext V (w.alloc o) := Ext.trans h ((Below.refl _ _).alloc (Nat.le_refl _) _)
theorem eAd (V : World) (o : Obj) : Ext V (V.alloc o).drew := (eA (Ext.refl V) o).drew
theorem eAAd (V : World) (o o' : Obj) : Ext V ((V.alloc o).alloc o').drew := (eA (eA (Ext.refl V) o) o').drew
end Go.Proofs.YtekocoklfnojmaaGreatDoor

namespace Go.Proofs.YtekocoklfnojmaaGreatDoor
open Go.RowKit

theorem abs_lt64 (f : Nat) : fabsF f < 18446744073709551616 := by have := fmag_lt f; unfold fabsF; split <;> omega
def magF (a b : Nat) : Nat := greatF [fabsF a, fabsF b]
def migF (a b : Nat) : Nat := if containsF a b then 0 else leastF [fabsF a, fabsF b]
theorem magF_lt (a b : Nat) : magF a b < 18446744073709551616 := greatF_lt (two_lt (abs_lt64 a) (abs_lt64 b))
theorem migF_lt (a b : Nat) : migF a b < 18446744073709551616 := by
  unfold migF
  split
  · omega
  · exact leastF_lt (two_lt (abs_lt64 a) (abs_lt64 b))

set_option maxRecDepth 100000 in
set_option maxHeartbeats 4000000 in
theorem imag_yes (a b : Nat) (ha : a < 18446744073709551616) (hb : b < 18446744073709551616) (h1 : validF a b = true) (w : World) :
    Calls Tryz.prog 42 #[.agg #[.int .u64 (a : Int), .int .u64 (b : Int)]] w fun e w' => e = .returned (.int .u64 ((magF a b : Nat) : Int)) ∧ Ext w w' := by
  have C1 := Lib.hid (ivalid_at a b ha hb rfl rfl true h1)
  have CA := absF_any a ha
  have CB := absF_any b hb
  have HL := two_lt (abs_lt64 a) (abs_lt64 b)
  unfold magF
  generalize fabsF a = p at *
  generalize fabsF b = q at *
  have CA := Lib.hid CA
  have CB := Lib.hid CB
  have HL := Lib.hid HL
  obtain ⟨R, hR⟩ : ∃ R : Int, ((greatF [p, q] : Nat) : Int) = R := ⟨_, rfl⟩
  rw [hR]
  have HR := Lib.hid hR
  clear h1 ha hb hR
  go_enter Tryz.func42, Tryz.ntmps42
  go_upto_region 1 with fail
  obtain ⟨W, hW, hB, hx, hsz⟩ := ibox_new w a b
  rw [← hW]
  clear hW
  generalize hBe : w.heap.size = B at *
  have HB := Lib.hid hB
  clear hB hBe
  have c0 := hx.c0
  have c1 := hx.c1
  go_wp2_with fail
  refine (C1.out _).mono ?_
  rintro r V ⟨rfl, hE⟩
  have hx := hx.below hE
  have HB := Lib.hid (Ext.trans HB.out hE)
  clear c0 c1 hE
  have c0 := hx.c0
  have c1 := hx.c1
  have HC := Lib.hid (show ∀ wx, Ext V wx → wx.cell? ⟨B, 0, none⟩ = some (.int .u64 (a : Int)) ∧ wx.cell? ⟨B, 1, none⟩ = some (.int .u64 (b : Int)) from fun wx h => ⟨(hx.below h).c0, (hx.below h).c1⟩)
  go_upto_region 3 with fail
  have st : Ext V V.drew := (Below.refl _ _).drew
  go_region_held3 (fun wx => wx.cell? ⟨B, 0, none⟩ = some (.int .u64 (a : Int)) ∧ wx.cell? ⟨B, 1, none⟩ = some (.int .u64 (b : Int)))
    (first | exact HC.out _ (by first | assumption | exact eA (by assumption) _ | exact eAd _ _ | exact eAAd _ _ _ | exact eA (eA (by assumption) _) _) | (refine ⟨?_, ?_⟩ <;> go_simp))
    (first
      | (go_at_call 56; (with_reducible refine (CA.out _).mono ?_); rintro r wa ⟨rfl, rfl⟩)
      | (go_at_call 56; (with_reducible refine (CB.out _).mono ?_); rintro r wb ⟨rfl, rfl⟩)
      | (go_at_call 81; refine (greatest_any _ [p, q] 2 rfl (by omega) HL.out _ (by first | exact fbAd _ _ _ | exact fbA _ _ _ | exact fbBd _ _ _ _ | exact fbB _ _ _ _)).mono ?_; rintro r wd ⟨rfl, hEd⟩; have std : Ext V wd := Ext.trans (by first | assumption | exact eA (by assumption) _ | exact eAd _ _ | exact eAAd _ _ _) hEd; obtain ⟨e0, e1⟩ := HC.out wd std))
  all_goals
    have HF := Lib.hid (Ext.trans HB.out std)
    go_wp2
    go_ret
    exact ⟨by first | (rw [← HR.out]; done) | (rw [← HR.out]; rfl), HF.out⟩

set_option maxRecDepth 100000 in
set_option maxHeartbeats 4000000 in
theorem imig_yes (a b : Nat) (ha : a < 18446744073709551616) (hb : b < 18446744073709551616) (h1 : validF a b = true) (w : World) :
    Calls Tryz.prog 44 #[.agg #[.int .u64 (a : Int), .int .u64 (b : Int)]] w fun e w' => e = .returned (.int .u64 ((migF a b : Nat) : Int)) ∧ Ext w w' := by
  have C1 := Lib.hid (ivalid_at a b ha hb rfl rfl true h1)
  have CZ := Lib.hid (contains_any a b ha hb)
  have CA := absF_any a ha
  have CB := absF_any b hb
  have HL := two_lt (abs_lt64 a) (abs_lt64 b)
  unfold migF
  generalize fabsF a = p at *
  generalize fabsF b = q at *
  have CA := Lib.hid CA
  have CB := Lib.hid CB
  have HL := Lib.hid HL
  obtain ⟨z, hz⟩ : ∃ z, containsF a b = z := ⟨_, rfl⟩
  rw [hz] at CZ ⊢
  obtain ⟨R, hR⟩ : ∃ R : Int, (((if z = true then 0 else leastF [p, q]) : Nat) : Int) = R := ⟨_, rfl⟩
  rw [hR]
  have HR := Lib.hid hR
  clear h1 ha hb hR hz
  go_enter Tryz.func44, Tryz.ntmps44
  go_upto_region 1 with fail
  obtain ⟨W, hW, hB, hx, hsz⟩ := ibox_new w a b
  rw [← hW]
  clear hW
  generalize hBe : w.heap.size = B at *
  have HB := Lib.hid hB
  clear hB hBe
  have c0 := hx.c0
  have c1 := hx.c1
  go_wp2_with fail
  refine (C1.out _).mono ?_
  rintro r V ⟨rfl, hE⟩
  have hx := hx.below hE
  have HB := Lib.hid (Ext.trans HB.out hE)
  clear c0 c1 hE
  have c0 := hx.c0
  have c1 := hx.c1
  cases z with
  | true =>
    obtain rfl : R = 0 := by rw [← HR.out]; rfl
    go_wp2_with fail
    refine (CZ.out _).mono ?_
    rintro r V2 ⟨rfl, hE⟩
    have HF := Lib.hid (Ext.trans HB.out hE)
    go_wp2
    go_ret
    exact ⟨rfl, HF.out⟩
  | false =>
    go_wp2_with fail
    refine (CZ.out _).mono ?_
    rintro r V2 ⟨rfl, hE⟩
    have hx := hx.below hE
    have HB := Lib.hid (Ext.trans HB.out hE)
    clear c0 c1 hE
    obtain ⟨V, hV⟩ : ∃ V, V = V2 := ⟨_, rfl⟩
    subst hV
    have c0 := hx.c0
    have c1 := hx.c1
    have HC := Lib.hid (show ∀ wx, Ext V wx → wx.cell? ⟨B, 0, none⟩ = some (.int .u64 (a : Int)) ∧ wx.cell? ⟨B, 1, none⟩ = some (.int .u64 (b : Int)) from fun wx h => ⟨(hx.below h).c0, (hx.below h).c1⟩)
    go_upto_region 5 with fail
    have st : Ext V V.drew := (Below.refl _ _).drew
    go_region_held3 (fun wx => wx.cell? ⟨B, 0, none⟩ = some (.int .u64 (a : Int)) ∧ wx.cell? ⟨B, 1, none⟩ = some (.int .u64 (b : Int)))
      (first | exact HC.out _ (by first | assumption | exact eA (by assumption) _ | exact eAd _ _ | exact eAAd _ _ _ | exact eA (eA (by assumption) _) _) | (refine ⟨?_, ?_⟩ <;> go_simp))
      (first
        | (go_at_call 56; (with_reducible refine (CA.out _).mono ?_); rintro r wa ⟨rfl, rfl⟩)
        | (go_at_call 56; (with_reducible refine (CB.out _).mono ?_); rintro r wb ⟨rfl, rfl⟩)
        | (go_at_call 84; refine (least_any _ [p, q] 2 rfl (by omega) HL.out _ (by first | exact fbAd _ _ _ | exact fbA _ _ _ | exact fbBd _ _ _ _ | exact fbB _ _ _ _)).mono ?_; rintro r wd ⟨rfl, hEd⟩; have std : Ext V wd := Ext.trans (by first | assumption | exact eA (by assumption) _ | exact eAd _ _ | exact eAAd _ _ _) hEd; obtain ⟨e0, e1⟩ := HC.out wd std))
    all_goals
      have HF := Lib.hid (Ext.trans HB.out std)
      go_wp2
      go_ret
      exact ⟨by first | (rw [← HR.out]; done) | (rw [← HR.out]; rfl), HF.out⟩

set_option maxRecDepth 100000 in
set_option maxHeartbeats 4000000 in
theorem isqr_yes (a b : Nat) (ha : a < 18446744073709551616) (hb : b < 18446744073709551616) (h1 : validF a b = true) (w : World) :
    Calls Tryz.prog 22 #[.agg #[.int .u64 (a : Int), .int .u64 (b : Int)]] w fun e w' => e = .returned (.agg #[.int .u64 ((plainF (fmulF (migF a b) (migF a b) 1) : Nat) : Int), .int .u64 ((plainF (fmulF (magF a b) (magF a b) 2) : Nat) : Int)]) ∧ Ext w w' := by
  have C1 := Lib.hid (ivalid_at a b ha hb rfl rfl true h1)
  have CI := imig_yes a b ha hb h1
  have CG := imag_yes a b ha hb h1
  have l1 := migF_lt a b
  have l2 := magF_lt a b
  generalize migF a b = p at *
  generalize magF a b = q at *
  have CI := Lib.hid CI
  have CG := Lib.hid CG
  have M1 := fmul_any p p 1 l1 l1
  have M2 := fmul_any q q 2 l2 l2
  have CB := between_any (fmulF p p 1) (fmulF q q 2)
  obtain ⟨x, hx⟩ : ∃ x : Int, ((plainF (fmulF p p 1) : Nat) : Int) = x := ⟨_, rfl⟩
  obtain ⟨y, hy⟩ : ∃ y : Int, ((plainF (fmulF q q 2) : Nat) : Int) = y := ⟨_, rfl⟩
  rw [hx, hy] at CB ⊢
  generalize fmulF p p 1 = r1 at *
  generalize fmulF q q 2 = r2 at *
  have M1 := Lib.hid M1
  have M2 := Lib.hid M2
  have CB := Lib.hid CB
  clear hx hy l1 l2 h1 ha hb
  go_enter Tryz.func22, Tryz.ntmps22
  go_upto_region 1 with fail
  obtain ⟨W, hW, hB, hx, hbx, hsz⟩ := ibox_two w a b 0 0
  rw [← hW]
  clear hW
  generalize hBe : w.heap.size = B at *
  have HBe := Lib.hid hBe
  have HB : Hid (Below B w W) := Lib.hid (by rw [← hBe]; exact hB)
  clear hBe hB
  have hBs : B + 2 ≤ W.heap.size := hsz
  clear hsz
  have c0 := hx.c0
  have c1 := hx.c1
  go_wp2_with fail
  refine (C1.out _).mono ?_
  rintro r V ⟨rfl, hE⟩
  have hx := hx.below hE
  have hbx := hbx.below hE
  have HB := Lib.hid (HB.out.trans (Below.mono hE (by omega)))
  have hBs : B + 2 ≤ V.heap.size := by have := Below.size hE; omega
  clear c0 c1 hE
  have c0 := hx.c0
  have c1 := hx.c1
  have HC := Lib.hid (show ∀ wx, Ext V wx → wx.cell? ⟨B, 0, none⟩ = some (.int .u64 (a : Int)) ∧ wx.cell? ⟨B, 1, none⟩ = some (.int .u64 (b : Int)) from fun wx h => ⟨(hx.below h).c0, (hx.below h).c1⟩)
  go_upto_region 3 with fail
  have st : Ext V V.drew := (Below.refl _ _).drew
  go_region_held3 (fun wx => wx.cell? ⟨B, 0, none⟩ = some (.int .u64 (a : Int)) ∧ wx.cell? ⟨B, 1, none⟩ = some (.int .u64 (b : Int)))
    (first | exact HC.out _ (by assumption))
    (first
      | (go_at_call 44; refine (CI.out _).mono ?_; rintro r wa ⟨rfl, hEa⟩; have sta : Ext V wa := Ext.trans (by assumption) hEa)
      | (go_at_call 42; refine (CG.out _).mono ?_; rintro r wb ⟨rfl, hEb⟩; have stb : Ext V wb := Ext.trans (by assumption) hEb))
  clear c0 c1
  go_wp2_with fail
  refine (M1.out _).mono ?_
  rintro r wc ⟨rfl, hEc⟩
  go_wp2_with fail
  refine (M2.out _).mono ?_
  rintro r wd ⟨rfl, hEd⟩
  go_wp2_with fail
  refine (CB.out _).mono ?_
  rintro r we ⟨rfl, hEe⟩
  have std : Ext V we := Ext.trans (Ext.trans (Ext.trans stb hEc) hEd) hEe
  have bz := hbx.below std
  have z0 := bz.c0
  have z1 := bz.c1
  have z2 := bz.f 0
  have z3 := bz.f 1
  have hst := bz.stored x y
  have y0 := hst.c0
  have y1 := hst.c1
  have HF := Lib.hid ((HB.out.trans (Below.mono std (by omega))).trans ((only_iset2 we (B + 1) (.int .u64 x) (.int .u64 y)).below (by omega)))
  clear hst
  go_wp2
  refine bodyPost_ret (v := .agg #[.int .u64 x, .int .u64 y]) (by simp [results, Tryz.results22, go_sem, y0, y1]) rfl ⟨rfl, ?_⟩
  show Below _ _ _
  rw [HBe.out]
  exact HF.out
end Go.Proofs.YtekocoklfnojmaaGreatDoor

namespace Go.Proofs.YtekocoklfnojmaaGreatDoor
open Go Go.RowKit

/-- turned about, an interval is valid -/
theorem valid_neg {a b : Nat} (ha : a < 18446744073709551616) (hb : b < 18446744073709551616) (h : validF a b = true) : validF (fnegF b) (fnegF a) = true := by
  rw [valid_iff ha hb] at h
  obtain ⟨n1, n2, h1, h2, h3⟩ := h
  rw [valid_iff fnegF_lt fnegF_lt]
  obtain ⟨p1, p2, -⟩ := neg_rank ha n1
  obtain ⟨q1, q2, -⟩ := neg_rank hb n2
  exact ⟨q1, p1, by omega, by omega, by omega⟩
theorem valid_plain {a b : Nat} (ha : a < 18446744073709551616) (hb : b < 18446744073709551616) (h : validF a b = true) : validF (plainF a) (plainF b) = true := by
  rw [valid_iff ha hb] at h
  rw [valid_iff (plainF_lt ha) (plainF_lt hb), (plain_facts a).1, (plain_facts a).2, (plain_facts b).1, (plain_facts b).2]
  exact h

set_option maxRecDepth 100000 in
set_option maxHeartbeats 4000000 in
theorem ineg_yes (a b : Nat) (ha : a < 18446744073709551616) (hb : b < 18446744073709551616) (h1 : validF a b = true) (w : World) :
    Calls Tryz.prog 12 #[.agg #[.int .u64 (a : Int), .int .u64 (b : Int)]] w fun e w' => e = .returned (.agg #[.int .u64 ((plainF (fnegF b) : Nat) : Int), .int .u64 ((plainF (fnegF a) : Nat) : Int)]) ∧ Ext w w' := by
  have C1 := Lib.hid (ivalid_at a b ha hb rfl rfl true h1)
  have C3 := Lib.hid (negF_any b hb)
  have C4 := Lib.hid (negF_any a ha)
  have C5 := Lib.hid (between_any (fnegF b) (fnegF a))
  obtain ⟨x, hx⟩ : ∃ x : Int, ((plainF (fnegF b) : Nat) : Int) = x := ⟨_, rfl⟩
  obtain ⟨y, hy⟩ : ∃ y : Int, ((plainF (fnegF a) : Nat) : Int) = y := ⟨_, rfl⟩
  rw [hx, hy] at C5 ⊢
  clear hx hy h1 ha hb
  generalize fnegF a = R1 at *
  generalize fnegF b = R2 at *
  go_enter Tryz.func12, Tryz.ntmps12
  go_wp2_with fail
  obtain ⟨W, hW, hB, hx, hbx, hsz⟩ := ibox_two w a b 0 0
  rw [← hW]
  clear hW
  generalize hBe : w.heap.size = B at *
  have HBe := Lib.hid hBe
  have HB : Hid (Below B w W) := Lib.hid (by rw [← hBe]; exact hB)
  clear hBe hB
  have hBs : B + 2 ≤ W.heap.size := hsz
  clear hsz
  have c0 := hx.c0
  have c1 := hx.c1
  go_wp2_with fail
  refine (C1.out _).mono ?_
  rintro r w1 ⟨rfl, hE⟩
  have hx := hx.below hE
  have hbx := hbx.below hE
  have HB := Lib.hid (HB.out.trans (Below.mono hE (by omega)))
  have hBs : B + 2 ≤ w1.heap.size := by have := Below.size hE; omega
  clear c0 c1 hE
  have c0 := hx.c0
  have c1 := hx.c1
  have HC := Lib.hid (show ∀ wx, Ext w1 wx → (wx.cell? ⟨B, 0, none⟩ = some (.int .u64 (a : Int)) ∧ wx.cell? ⟨B, 1, none⟩ = some (.int .u64 (b : Int))) from fun wx h => ⟨(hx.below h).c0, (hx.below h).c1⟩)
  have st : Ext w1 w1.drew := (Below.refl _ _).drew
  go_upto_region 3 with fail
  go_region_held3 (fun wx => wx.cell? ⟨B, 0, none⟩ = some (.int .u64 (a : Int)) ∧ wx.cell? ⟨B, 1, none⟩ = some (.int .u64 (b : Int)))
    (first | exact HC.out _ (by assumption) | exact HC.out _ (Ext.refl _) | (refine ⟨?_, ?_⟩ <;> go_simp))
    (first
      | (go_at_call 67; (with_reducible refine (C3.out _).mono ?_); rintro r w3 ⟨rfl, rfl⟩)
      | (go_at_call 67; (with_reducible refine (C4.out _).mono ?_); rintro r w4 ⟨rfl, rfl⟩)
      | (go_at_call 63; refine (C5.out _).mono ?_; rintro r w5 ⟨rfl, hE3⟩; have ex3 : Ext w1 w5 := Ext.trans st hE3; have b3 := hbx.below ex3; have q0 := b3.c0; have q1 := b3.c1; have q2 := b3.f 0; have q3 := b3.f 1))
  all_goals
    have hst := b3.stored x y
    have z0 := hst.c0
    have z1 := hst.c1
    have HF := Lib.hid ((HB.out.trans (Below.mono ex3 (by omega))).trans ((only_iset2 w5 (B + 1) (.int .u64 x) (.int .u64 y)).below (by omega)))
    clear hst q0 q1 q2 q3
    go_wp2
    refine bodyPost_ret (v := .agg #[.int .u64 x, .int .u64 y]) (by simp [results, Tryz.results12, go_sem, z0, z1]) rfl ⟨rfl, ?_⟩
    show Below _ _ _
    rw [HBe.out]
    exact HF.out

set_option maxRecDepth 100000 in
set_option maxHeartbeats 4000000 in
theorem isub_yes (a b c d : Nat) (ha : a < 18446744073709551616) (hb : b < 18446744073709551616) (hc : c < 18446744073709551616) (hd : d < 18446744073709551616) (h1 : validF a b = true) (h2 : validF c d = true) (w : World) :
    Calls Tryz.prog 16 #[.agg #[.int .u64 (a : Int), .int .u64 (b : Int)], .agg #[.int .u64 (c : Int), .int .u64 (d : Int)]] w fun e w' => e = .returned (.agg #[.int .u64 ((plainF (faddF a (plainF (fnegF d)) 1) : Nat) : Int), .int .u64 ((plainF (faddF b (plainF (fnegF c)) 2) : Nat) : Int)]) ∧ Ext w w' := by
  have h3 := valid_plain fnegF_lt fnegF_lt (valid_neg hc hd h2)
  have l1 := plainF_lt (fnegF_lt (f := d))
  have l2 := plainF_lt (fnegF_lt (f := c))
  have CN := Lib.hid (ineg_yes c d hc hd h2)
  have CA := Lib.hid (iadd_yes a b (plainF (fnegF d)) (plainF (fnegF c)) ha hb l1 l2 h1 h3)
  obtain ⟨x, hx⟩ : ∃ x : Int, ((plainF (faddF a (plainF (fnegF d)) 1) : Nat) : Int) = x := ⟨_, rfl⟩
  obtain ⟨y, hy⟩ : ∃ y : Int, ((plainF (faddF b (plainF (fnegF c)) 2) : Nat) : Int) = y := ⟨_, rfl⟩
  rw [hx, hy] at CA ⊢
  clear hx hy h1 h2 h3 l1 l2 ha hb hc hd
  generalize plainF (fnegF d) = R1 at *
  generalize plainF (fnegF c) = R2 at *
  go_enter Tryz.func16, Tryz.ntmps16
  go_upto_region 1 with fail
  obtain ⟨W, hW, hB, hx, hy, hbx, hsz⟩ := ibox_three w a b c d 0 0
  rw [← hW]
  clear hW
  generalize hBe : w.heap.size = B at *
  have HBe := Lib.hid hBe
  have HB : Hid (Below B w W) := Lib.hid (by rw [← hBe]; exact hB)
  clear hBe hB
  have hBs : B + 3 ≤ W.heap.size := hsz
  clear hsz
  have c0 := hx.c0
  have c1 := hx.c1
  have c2 := hy.c0
  have c3 := hy.c1
  have HC := Lib.hid (show ∀ wx, Ext W wx → (wx.cell? ⟨B, 0, none⟩ = some (.int .u64 (a : Int)) ∧ wx.cell? ⟨B, 1, none⟩ = some (.int .u64 (b : Int)) ∧ wx.cell? ⟨B + 1, 0, none⟩ = some (.int .u64 (c : Int)) ∧ wx.cell? ⟨B + 1, 1, none⟩ = some (.int .u64 (d : Int))) from fun wx h => ⟨(hx.below h).c0, (hx.below h).c1, (hy.below h).c0, (hy.below h).c1⟩)
  have st : Ext W W.drew := (Below.refl _ _).drew
  go_region_held3 (fun wx => wx.cell? ⟨B, 0, none⟩ = some (.int .u64 (a : Int)) ∧ wx.cell? ⟨B, 1, none⟩ = some (.int .u64 (b : Int)) ∧ wx.cell? ⟨B + 1, 0, none⟩ = some (.int .u64 (c : Int)) ∧ wx.cell? ⟨B + 1, 1, none⟩ = some (.int .u64 (d : Int)))
    (first | exact HC.out _ (by assumption) | exact HC.out _ (Ext.refl _) | (refine ⟨?_, ?_, ?_, ?_⟩ <;> go_simp))
    (first
      | (go_at_call 12; refine (CN.out _).mono ?_; rintro r w3 ⟨rfl, hE1⟩; have ex1 : Ext W w3 := Ext.trans st hE1)
      | (go_at_call 14; refine (CA.out _).mono ?_; rintro r w5 ⟨rfl, hE3⟩; have ex3 : Ext W w5 := Ext.trans ex1 hE3; have b3 := hbx.below ex3; have q0 := b3.c0; have q1 := b3.c1; have q2 := b3.f 0; have q3 := b3.f 1))
  all_goals
    have hst := b3.stored x y
    have z0 := hst.c0
    have z1 := hst.c1
    have HF := Lib.hid ((HB.out.trans (Below.mono ex3 (by omega))).trans ((only_iset2 w5 (B + 1 + 1) (.int .u64 x) (.int .u64 y)).below (by omega)))
    clear hst q0 q1 q2 q3
    go_wp2
    refine bodyPost_ret (v := .agg #[.int .u64 x, .int .u64 y]) (by simp [results, Tryz.results16, go_sem, z0, z1]) rfl ⟨rfl, ?_⟩
    show Below _ _ _
    rw [HBe.out]
    exact HF.out
end Go.Proofs.YtekocoklfnojmaaGreatDoor
