import Derived.Test.YtolghagbpnjpgaaDoorIMonoU41
import Derived.Test.YtolghagbpnjpgaaDoorIMonoU37
namespace Go.Proofs.YtolghagbpnjpgaaDoor
open Go Go.RowKit

/-- turned about, an interval is valid -/
theorem valid_neg {a b : Nat} (ha : a < 18446744073709551616) (hb : b < 18446744073709551616) (h : validF a b = true) : validF (fnegF b) (fnegF a) = true := by
  rw [valid_iff ha hb] at h
  obtain ⟨n1, n2, h1, h2, h3⟩ := h
  rw [valid_iff fnegF_lt fnegF_lt]
  obtain ⟨p1, p2, -⟩ := neg_rank ha n1
  obtain ⟨q1, q2, -⟩ := neg_rank hb n2
  exact ⟨q1, p1, by omega, by omega, by omega⟩
theorem valid_plain {a b : Nat} (ha : a < 18446744073709551616) (hb : b < 18446744073709551616) (h : validF a b = true) : validF (plainF a) (plainF b) = true := by
  rw [valid_iff ha hb] at h
  rw [valid_iff (plainF_lt ha) (plainF_lt hb), (plain_facts a).1, (plain_facts a).2, (plain_facts b).1, (plain_facts b).2]
  exact h

set_option maxRecDepth 100000 in
set_option maxHeartbeats 4000000 in
theorem ineg_yes (a b : Nat) (ha : a < 18446744073709551616) (hb : b < 18446744073709551616) (h1 : validF a b = true) (w : World) :
    Calls Tryd.prog 28 #[.agg #[.int .u64 (a : Int), .int .u64 (b : Int)]] w fun e w' => e = .returned (.agg #[.int .u64 ((plainF (fnegF b) : Nat) : Int), .int .u64 ((plainF (fnegF a) : Nat) : Int)]) ∧ Ext w w' := by
  have C1 := Lib.hid (ivalid_at a b ha hb rfl rfl true h1)
  have C3 := Lib.hid (negF_any b hb)
  have C4 := Lib.hid (negF_any a ha)
  have C5 := Lib.hid (between_any (fnegF b) (fnegF a))
  obtain ⟨x, hx⟩ : ∃ x : Int, ((plainF (fnegF b) : Nat) : Int) = x := ⟨_, rfl⟩
  obtain ⟨y, hy⟩ : ∃ y : Int, ((plainF (fnegF a) : Nat) : Int) = y := ⟨_, rfl⟩
  rw [hx, hy] at C5 ⊢
  clear hx hy h1 ha hb
  generalize fnegF a = R1 at *
  generalize fnegF b = R2 at *
  go_enter Tryd.func28, Tryd.ntmps28
  go_wp2_with fail
  obtain ⟨W, hW, hB, hx, hbx, hsz⟩ := ibox_two w a b 0 0
  rw [← hW]
  clear hW
  generalize hBe : w.heap.size = B at *
  have HBe := Lib.hid hBe
  have HB : Hid (Below B w W) := Lib.hid (by rw [← hBe]; exact hB)
  clear hBe hB
  have hBs : B + 2 ≤ W.heap.size := hsz
  clear hsz
  have c0 := hx.c0
  have c1 := hx.c1
  go_wp2_with fail
  refine (C1.out _).mono ?_
  rintro r w1 ⟨rfl, hE⟩
  have hx := hx.below hE
  have hbx := hbx.below hE
  have HB := Lib.hid (HB.out.trans (Below.mono hE (by omega)))
  have hBs : B + 2 ≤ w1.heap.size := by have := Below.size hE; omega
  clear c0 c1 hE
  have c0 := hx.c0
  have c1 := hx.c1
  have HC := Lib.hid (show ∀ wx, Ext w1 wx → (wx.cell? ⟨B, 0, none⟩ = some (.int .u64 (a : Int)) ∧ wx.cell? ⟨B, 1, none⟩ = some (.int .u64 (b : Int))) from fun wx h => ⟨(hx.below h).c0, (hx.below h).c1⟩)
  have st : Ext w1 w1.drew := (Below.refl _ _).drew
  go_upto_region 3 with fail
  go_region_held3 (fun wx => wx.cell? ⟨B, 0, none⟩ = some (.int .u64 (a : Int)) ∧ wx.cell? ⟨B, 1, none⟩ = some (.int .u64 (b : Int)))
    (first | exact HC.out _ (by assumption) | exact HC.out _ (Ext.refl _) | (refine ⟨?_, ?_⟩ <;> go_simp))
    (first
      | (go_at_call 51; (with_reducible refine (C3.out _).mono ?_); rintro r w3 ⟨rfl, rfl⟩)
      | (go_at_call 51; (with_reducible refine (C4.out _).mono ?_); rintro r w4 ⟨rfl, rfl⟩)
      | (go_at_call 26; refine (C5.out _).mono ?_; rintro r w5 ⟨rfl, hE3⟩; have ex3 : Ext w1 w5 := Ext.trans st hE3; have b3 := hbx.below ex3; have q0 := b3.c0; have q1 := b3.c1; have q2 := b3.f 0; have q3 := b3.f 1))
  all_goals
    have hst := b3.stored x y
    have z0 := hst.c0
    have z1 := hst.c1
    have HF := Lib.hid ((HB.out.trans (Below.mono ex3 (by omega))).trans ((only_iset2 w5 (B + 1) (.int .u64 x) (.int .u64 y)).below (by omega)))
    clear hst q0 q1 q2 q3
    go_wp2
    refine bodyPost_ret (v := .agg #[.int .u64 x, .int .u64 y]) (by simp [results, Tryd.results28, go_sem, z0, z1]) rfl ⟨rfl, ?_⟩
    show Below _ _ _
    rw [HBe.out]
    exact HF.out

set_option maxRecDepth 100000 in
set_option maxHeartbeats 4000000 in
theorem isub_yes (a b c d : Nat) (ha : a < 18446744073709551616) (hb : b < 18446744073709551616) (hc : c < 18446744073709551616) (hd : d < 18446744073709551616) (h1 : validF a b = true) (h2 : validF c d = true) (w : World) :
    Calls Tryd.prog 10 #[.agg #[.int .u64 (a : Int), .int .u64 (b : Int)], .agg #[.int .u64 (c : Int), .int .u64 (d : Int)]] w fun e w' => e = .returned (.agg #[.int .u64 ((plainF (faddF a (plainF (fnegF d)) 1) : Nat) : Int), .int .u64 ((plainF (faddF b (plainF (fnegF c)) 2) : Nat) : Int)]) ∧ Ext w w' := by
  have h3 := valid_plain fnegF_lt fnegF_lt (valid_neg hc hd h2)
  have l1 := plainF_lt (fnegF_lt (f := d))
  have l2 := plainF_lt (fnegF_lt (f := c))
  have CN := Lib.hid (ineg_yes c d hc hd h2)
  have CA := Lib.hid (iadd_yes a b (plainF (fnegF d)) (plainF (fnegF c)) ha hb l1 l2 h1 h3)
  obtain ⟨x, hx⟩ : ∃ x : Int, ((plainF (faddF a (plainF (fnegF d)) 1) : Nat) : Int) = x := ⟨_, rfl⟩
  obtain ⟨y, hy⟩ : ∃ y : Int, ((plainF (faddF b (plainF (fnegF c)) 2) : Nat) : Int) = y := ⟨_, rfl⟩
  rw [hx, hy] at CA ⊢
  clear hx hy h1 h2 h3 l1 l2 ha hb hc hd
  generalize plainF (fnegF d) = R1 at *
  generalize plainF (fnegF c) = R2 at *
  go_enter Tryd.func10, Tryd.ntmps10
  go_upto_region 1 with fail
  obtain ⟨W, hW, hB, hx, hy, hbx, hsz⟩ := ibox_three w a b c d 0 0
  rw [← hW]
  clear hW
  generalize hBe : w.heap.size = B at *
  have HBe := Lib.hid hBe
  have HB : Hid (Below B w W) := Lib.hid (by rw [← hBe]; exact hB)
  clear hBe hB
  have hBs : B + 3 ≤ W.heap.size := hsz
  clear hsz
  have c0 := hx.c0
  have c1 := hx.c1
  have c2 := hy.c0
  have c3 := hy.c1
  have HC := Lib.hid (show ∀ wx, Ext W wx → (wx.cell? ⟨B, 0, none⟩ = some (.int .u64 (a : Int)) ∧ wx.cell? ⟨B, 1, none⟩ = some (.int .u64 (b : Int)) ∧ wx.cell? ⟨B + 1, 0, none⟩ = some (.int .u64 (c : Int)) ∧ wx.cell? ⟨B + 1, 1, none⟩ = some (.int .u64 (d : Int))) from fun wx h => ⟨(hx.below h).c0, (hx.below h).c1, (hy.below h).c0, (hy.below h).c1⟩)
  have st : Ext W W.drew := (Below.refl _ _).drew
  go_region_held3 (fun wx => wx.cell? ⟨B, 0, none⟩ = some (.int .u64 (a : Int)) ∧ wx.cell? ⟨B, 1, none⟩ = some (.int .u64 (b : Int)) ∧ wx.cell? ⟨B + 1, 0, none⟩ = some (.int .u64 (c : Int)) ∧ wx.cell? ⟨B + 1, 1, none⟩ = some (.int .u64 (d : Int)))
    (first | exact HC.out _ (by assumption) | exact HC.out _ (Ext.refl _) | (refine ⟨?_, ?_, ?_, ?_⟩ <;> go_simp))
    (first
      | (go_at_call 28; refine (CN.out _).mono ?_; rintro r w3 ⟨rfl, hE1⟩; have ex1 : Ext W w3 := Ext.trans st hE1)
      | (go_at_call 9; refine (CA.out _).mono ?_; rintro r w5 ⟨rfl, hE3⟩; have ex3 : Ext W w5 := Ext.trans ex1 hE3; have b3 := hbx.below ex3; have q0 := b3.c0; have q1 := b3.c1; have q2 := b3.f 0; have q3 := b3.f 1))
  all_goals
    have hst := b3.stored x y
    have z0 := hst.c0
    have z1 := hst.c1
    have HF := Lib.hid ((HB.out.trans (Below.mono ex3 (by omega))).trans ((only_iset2 w5 (B + 1 + 1) (.int .u64 x) (.int .u64 y)).below (by omega)))
    clear hst q0 q1 q2 q3
    go_wp2
    refine bodyPost_ret (v := .agg #[.int .u64 x, .int .u64 y]) (by simp [results, Tryd.results10, go_sem, z0, z1]) rfl ⟨rfl, ?_⟩
    show Below _ _ _
    rw [HBe.out]
    exact HF.out
end Go.Proofs.YtolghagbpnjpgaaDoor
