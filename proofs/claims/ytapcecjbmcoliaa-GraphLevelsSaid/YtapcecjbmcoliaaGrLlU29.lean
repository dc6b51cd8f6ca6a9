import Derived.Test.YtapcecjbmcoliaaGrLlU26
import Derived.Test.YtapcecjbmcoliaaGrLlU28
namespace Go.Proofs.Ytapcecjbmcoliaa
open Go Go.RowKit

theorem gbox_val (w : World) (v : Value) : ∃ W, W = w.alloc (.cells #[v] 27) ∧ Ext w W ∧ GBox W w.heap.size v ∧ W.heap.size = w.heap.size + 1 :=
  ⟨_, rfl, (Below.refl _ w).alloc (Nat.le_refl _) _, VBlk.new w _ _, by simp⟩

set_option maxRecDepth 100000 in
set_option maxHeartbeats 8000000 in
theorem haveOther_any (ao : Option Addr) (n cap : Nat) (a : Nat → Nat → Bool) (w : World) (h : Nss w ao n cap (adjM n a)) (hg : GOk a) (hn : n ≤ 1000) :
    Calls Try.prog 42 #[.agg #[.slice ao n cap]] w fun e w' => e = .returned (.bool true) ∧ Ext w w' := by
  have HH := Lib.hid h
  clear h
  go_enter Try.func42, Try.ntmps42
  go_upto_region 1 with fail
  obtain ⟨V, hV, hEV, b1, -⟩ := gbox_val w (.slice ao n cap)
  rw [← hV]
  clear hV
  obtain ⟨C, hCe⟩ : ∃ C, w.heap.size = C := ⟨_, rfl⟩
  rw [hCe] at b1 ⊢
  have HN := Lib.hid (HH.out.below hEV)
  have HEV := Lib.hid hEV
  have k0 := b1.c
  have HB := Lib.hid b1
  clear hCe hEV b1
  go_wp2
  go_loopw [11] (fun iv wr => ∃ i : Nat, i ≤ n ∧ iv = .int .i64 (i : Int) ∧ V = wr) (fun iv _ => n - (intOf iv).toNat)
  case atStart => exact ⟨0, Nat.zero_le _, rfl, rfl⟩
  case round =>
    obtain ⟨i, hi, rfl, rfl⟩ := hrel
    by_cases hlt : i < n
    · have hii : (i : Int) < (n : Int) := by omega
      obtain ⟨b, off, rfl, hc⟩ := HN.out.rows (by omega)
      obtain ⟨ri, ci, k1, hns⟩ := hc i hlt
      rw [adjM_get a hlt] at k1 hns
      obtain ⟨L, hL⟩ : ∃ L, rowZ a i n = L := ⟨_, rfl⟩
      obtain ⟨m, hm⟩ : ∃ m, L.length = m := ⟨_, rfl⟩
      rw [hL, hm] at k1 hns
      have HL := Lib.hid hL
      have HM := Lib.hid hm
      have HNS := Lib.hid hns
      have HG := Lib.hid hg
      have hm6 : m ≤ 1000 := by have := rowZ_le a i n; rw [hL, hm] at this; omega
      clear hc hns hL hm hg
      go_wp2
      go_loopw [5, 18] (fun lv kv wr => ∃ k : Nat, k ≤ m ∧ kv = .int .i64 (k : Int) ∧ lv = .int .i64 (lastZ L k) ∧ V = wr) (fun _ kv _ => m - (intOf kv).toNat)
      case atStart => exact ⟨0, Nat.zero_le _, rfl, rfl, rfl⟩
      case round =>
        obtain ⟨k, hk, rfl, rfl, rfl⟩ := hrel
        by_cases hkl : k < m
        · have hki : (k : Int) < (m : Int) := by omega
          obtain ⟨b2, off2, rfl, hc2⟩ := HNS.out.cells (by omega)
          have k2 := hc2 k hkl
          obtain ⟨x, hx, hxn, hax⟩ := rowZ_at (a := a) (v := i) (n := n) (k := k) (by rw [HL.out, HM.out]; exact hkl)
          have hla := lastZ_lt (a := a) (v := i) (n := n) (k := k) (by rw [HL.out, HM.out]; exact hkl)
          have hnx := lastZ_next L k
          rw [HL.out] at hx hla
          rw [hx] at k2 hla hnx
          have hxi : ¬ x = i := fun e => by
            rw [e, HG.out.irr] at hax
            cases hax
          obtain ⟨z, hz⟩ : ∃ z, lastZ L k = z := ⟨_, rfl⟩
          rw [hz] at hla ⊢
          have h1 : ¬ (x : Int) ≤ z := by omega
          have h2 : ¬ (x : Int) ≥ (n : Int) := by omega
          have h3 : ((x : Int) == (i : Int)) = false := by rw [beq_eq_false_iff_ne]; omega
          have HNX := Lib.hid hnx
          clear hc2 hx hax hz hnx hla
          go_wp2
          go_roundw
          case rel => exact ⟨k + 1, by omega, by go_num, by rw [HNX.out], trivial⟩
          case measure => simp [intOf] <;> omega
        · obtain rfl : m = k := by omega
          have hmm : ¬ (m : Int) < (m : Int) := by omega
          go_wp2
          go_roundw
          case rel => exact ⟨i + 1, by omega, by go_num, trivial⟩
          case measure => simp [intOf] <;> omega
    · obtain rfl : n = i := by omega
      have hnn : ¬ (n : Int) < (n : Int) := by omega
      go_wp2
      go_ret
      exact ⟨rfl, HEV.out⟩

theorem ext_drewN (w : World) (q : Nat) : Ext w (w.drewN q) := ⟨rfl, rfl, rfl, Nat.le_refl _, fun _ _ => rfl⟩
set_option maxRecDepth 100000 in
set_option maxHeartbeats 8000000 in
theorem areJoined_any (ao : Option Addr) (n cap v x : Nat) (a : Nat → Nat → Bool) (w : World) (h : Nss w ao n cap (adjM n a)) (hv : v < n) (hx : x < n) (hn : n ≤ 1000) :
    Calls Try.prog 68 #[.agg #[.slice ao n cap], .int .i64 (v : Int), .int .i64 (x : Int)] w fun e w' => e = .returned (.bool (a v x)) ∧ Ext w w' := by
  have HH := Lib.hid h
  clear h
  go_enter Try.func68, Try.ntmps68
  go_upto_region 1 with fail
  obtain ⟨V, hV, hEV, b1, -⟩ := gbox_val w (.slice ao n cap)
  rw [← hV]
  clear hV
  obtain ⟨C, hCe⟩ : ∃ C, w.heap.size = C := ⟨_, rfl⟩
  rw [hCe] at b1 ⊢
  have HN := Lib.hid (HH.out.below hEV)
  have HEV := Lib.hid hEV
  have k0 := b1.c
  have HB := Lib.hid b1
  clear hCe hEV b1
  have hvi : (v : Int) < (n : Int) := by omega
  obtain ⟨b, off, rfl, hc⟩ := HN.out.rows (by omega)
  obtain ⟨ri, ci, k1, hns⟩ := hc v hv
  rw [adjM_get a hv] at k1 hns
  have HHAS := Lib.hid (rowZ_has (a := a) (v := v) hx)
  have HUP := Lib.hid (rowZ_up a v n)
  have hm6 : (rowZ a v n).length ≤ 1000 := by have := rowZ_le a v n; omega
  obtain ⟨L, hL⟩ : ∃ L, rowZ a v n = L := ⟨_, rfl⟩
  rw [hL] at k1 hns HHAS HUP hm6
  have CB : Hid (Calls Try.prog 83 #[.slice ri L.length ci, .int .i64 (x : Int)] V fun e w' => ∃ p : Int, e = .returned (.tuple #[.int .i64 p, .bool (a v x)]) ∧ Ext V w') := Lib.hid (by
    by_cases h0 : L.length = 0
    · have e0 : L = [] := List.eq_nil_of_length_eq_zero h0
      subst e0
      refine (Try.slices_BinarySearch_int_empty ri ci x V).mono ?_
      rintro e w' ⟨rfl, rfl⟩
      rw [← HHAS.out]
      exact ⟨_, rfl, Ext.refl _⟩
    · obtain ⟨b2, off2, rfl, hc2⟩ := hns.cells (by omega)
      refine (Try.slices_BinarySearch_int b2 off2 L.length ci L x V (Nat.le_refl _) (by omega) hc2 ?_).mono ?_
      · rw [List.take_of_length_le (Nat.le_refl _)]
        exact HUP.out.imp fun h => Int.le_of_lt h
      · rintro e w' ⟨rfl, q, rfl⟩
        rw [List.take_of_length_le (Nat.le_refl _), HHAS.out]
        exact ⟨_, rfl, ext_drewN _ _⟩)
  obtain ⟨m, hm⟩ : ∃ m, L.length = m := ⟨_, rfl⟩
  rw [hm] at k1 CB
  clear hc hns hL hm HUP hm6
  go_wp2_with fail
  refine CB.out.mono ?_
  rintro e w2 ⟨p, rfl, hE⟩
  have RE := Lib.hid (HEV.out.trans hE)
  clear hE
  go_wp2
  go_ret
  exact ⟨rfl, RE.out⟩

set_option maxRecDepth 100000 in
set_option maxHeartbeats 8000000 in
theorem isMutual_any (ao : Option Addr) (n cap : Nat) (a : Nat → Nat → Bool) (w : World) (h : Nss w ao n cap (adjM n a)) (hg : GOk a) (hn : n ≤ 1000) :
    Calls Try.prog 43 #[.agg #[.slice ao n cap]] w fun e w' => e = .returned (.bool true) ∧ Ext w w' := by
  have HH := Lib.hid h
  clear h
  go_enter Try.func43, Try.ntmps43
  go_upto_region 1 with fail
  obtain ⟨V, hV, hEV, b1, -⟩ := gbox_val w (.slice ao n cap)
  rw [← hV]
  clear hV
  obtain ⟨C, hCe⟩ : ∃ C, w.heap.size = C := ⟨_, rfl⟩
  rw [hCe] at b1 ⊢
  have HN := Lib.hid (HH.out.below hEV)
  have HEV := Lib.hid hEV
  have k0 := b1.c
  have HB := Lib.hid b1
  clear hCe hEV b1
  clear k0
  have HBE := Lib.hid (show ∀ wx, Ext V wx → wx.cell? ⟨C, 0, none⟩ = some (.slice ao n cap) from fun wx hx => (HB.out.low hx HB.out.lt).c)
  have k0 := HBE.out V (Ext.refl _)
  have HG := Lib.hid hg
  clear hg HB
  go_wp2
  go_loopw [10] (fun iv wr => ∃ i : Nat, i ≤ n ∧ iv = .int .i64 (i : Int) ∧ Hid (Ext V wr)) (fun iv _ => n - (intOf iv).toNat)
  case atStart => exact ⟨0, Nat.zero_le _, rfl, Lib.hid (Ext.refl _)⟩
  case round =>
    clear k0
    obtain ⟨i, hi, rfl, hE⟩ := hrel
    by_cases hlt : i < n
    · have hii : (i : Int) < (n : Int) := by omega
      obtain ⟨b, off, rfl, hc⟩ := (HN.out.below hE.out).rows (by omega)
      obtain ⟨ri, ci, k1, hns⟩ := hc i hlt
      rw [adjM_get a hlt] at k1 hns
      obtain ⟨L, hL⟩ : ∃ L, rowZ a i n = L := ⟨_, rfl⟩
      obtain ⟨m, hm⟩ : ∃ m, L.length = m := ⟨_, rfl⟩
      rw [hL, hm] at k1 hns
      have HL := Lib.hid hL
      have HM := Lib.hid hm
      have HNS := Lib.hid hns
      have hm6 : m ≤ 1000 := by have := rowZ_le a i n; rw [hL, hm] at this; omega
      have k0 := HBE.out _ hE.out
      clear hc hns hL hm
      go_wp2
      go_loopw [17] (fun kv wx => ∃ k : Nat, k ≤ m ∧ kv = .int .i64 (k : Int) ∧ Hid (Ext wr wx)) (fun kv _ => m - (intOf kv).toNat)
      case atStart => exact ⟨0, Nat.zero_le _, rfl, Lib.hid (Ext.refl _)⟩
      case round =>
        clear k0 k1
        rename World => wx
        obtain ⟨k, hk, rfl, hX⟩ := hrel
        by_cases hkl : k < m
        · have hki : (k : Int) < (m : Int) := by omega
          obtain ⟨b2, off2, rfl, hc2⟩ := (HNS.out.below hX.out).cells (by omega)
          have k2 := hc2 k hkl
          obtain ⟨x, hx, hxn, hax⟩ := rowZ_at (a := a) (v := i) (n := n) (k := k) (by rw [HL.out, HM.out]; exact hkl)
          rw [HL.out] at hx
          rw [hx] at k2
          have CJ := Lib.hid (areJoined_any _ n cap x i a wx ((HN.out.below hE.out).below hX.out) hxn hlt hn)
          rw [HG.out.sym x i, hax] at CJ
          have k0 := HBE.out _ (Ext.trans hE.out hX.out)
          clear hc2 hx hax
          go_wp2_with fail
          refine CJ.out.mono ?_
          rintro e w2 ⟨rfl, hE2⟩
          have RE := Lib.hid (Ext.trans hX.out hE2)
          clear hE2 CJ k0 k2
          go_wp2
          go_roundw
          case rel => exact ⟨k + 1, by omega, by go_num, RE⟩
          case measure => simp [intOf] <;> omega
        · obtain rfl : m = k := by omega
          have hmm : ¬ (m : Int) < (m : Int) := by omega
          have RE := Lib.hid (Ext.trans hE.out hX.out)
          go_wp2
          go_roundw
          case rel => exact ⟨i + 1, by omega, by go_num, RE⟩
          case measure => simp [intOf] <;> omega
    · obtain rfl : n = i := by omega
      have hnn : ¬ (n : Int) < (n : Int) := by omega
      have RE := Lib.hid (Ext.trans HEV.out hE.out)
      go_wp2
      go_ret
      exact ⟨rfl, RE.out⟩

set_option maxRecDepth 100000 in
set_option maxHeartbeats 8000000 in
theorem checkG_any (ao : Option Addr) (n cap : Nat) (a : Nat → Nat → Bool) (w : World) (h : Nss w ao n cap (adjM n a)) (hg : GOk a) (hn : n ≤ 200) :
    Calls Try.prog 14 #[.agg #[.slice ao n cap]] w fun e w' => e = .returned (.int .i64 0) ∧ Ext w w' := by
  have HH := Lib.hid h
  clear h
  go_enter Try.func14, Try.ntmps14
  go_upto_region 1 with fail
  obtain ⟨V, hV, hEV, b1, -⟩ := gbox_val w (.slice ao n cap)
  rw [← hV]
  clear hV
  obtain ⟨C, hCe⟩ : ∃ C, w.heap.size = C := ⟨_, rfl⟩
  rw [hCe] at b1 ⊢
  have HN := Lib.hid (HH.out.below hEV)
  have HEV := Lib.hid hEV
  have k0 := b1.c
  have HB := Lib.hid b1
  clear hCe hEV b1
  clear k0
  have HBE := Lib.hid (show ∀ wx, Ext V wx → wx.cell? ⟨C, 0, none⟩ = some (.slice ao n cap) from fun wx hx => (HB.out.low hx HB.out.lt).c)
  have k0 := HBE.out V (Ext.refl _)
  have C1 := Lib.hid (haveOther_any ao n cap a V HN.out hg (by omega))
  have C2 := Lib.hid (fun wx (hx : Ext V wx) => isMutual_any ao n cap a wx (HN.out.below hx) hg (by omega))
  have hnl : ¬ (n : Int) > 200 := by omega
  clear HB hg
  go_wp2_with fail
  refine C1.out.mono ?_
  rintro e w2 ⟨rfl, hE⟩
  have k0 := HBE.out _ hE
  have RE := Lib.hid hE
  clear hE C1
  go_wp2_with fail
  refine (C2.out _ RE.out).mono ?_
  rintro e w3 ⟨rfl, hE⟩
  have RF := Lib.hid (Ext.trans HEV.out (Ext.trans RE.out hE))
  clear hE C2 k0
  go_wp2
  go_ret
  exact ⟨rfl, RF.out⟩
end Go.Proofs.Ytapcecjbmcoliaa
