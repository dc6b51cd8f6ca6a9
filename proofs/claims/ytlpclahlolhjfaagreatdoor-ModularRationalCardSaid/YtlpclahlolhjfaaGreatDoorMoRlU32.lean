import Derived.Test.YtlpclahlolhjfaaGreatDoorMoRlU31
import Derived.Test.YtlpclahlolhjfaaGreatDoorMoRlU29
import Derived.Deep.CutRange
import Derived.RegionTactic
import Derived.Shelf.Strings.BuilderK
import Derived.Test.YtlpclahlolhjfaaGreatDoorProg
import Derived.Test.YtlpclahlolhjfaaGreatDoorMoRlU1
namespace Go.Proofs.YtlpclahlolhjfaaGreatDoor
open Go Go.RowKit

set_option maxRecDepth 100000 in
set_option maxHeartbeats 4000000 in
theorem reduce_12 (b c : Nat) (w : World) (hb : VBlk w b #[.slice (some ⟨c, 0, none⟩) 2 2] 22) (hc : VBlk w c #[.int .i64 1, .int .i64 2] 3) (hbc : b ≠ c) :
    Calls Tryz.prog 61 #[.slice (some ⟨b, 0, none⟩) 1 1, .int .i64 2, .int .i64 7] w fun r w' => ∃ q pc, r = .returned (.agg #[.int .i64 7, .slice (some ⟨b, 0, none⟩) 1 1, .slice (some ⟨q, 0, none⟩) 1 pc, .int .i64 1]) ∧ w'.cell? ⟨q, 0, none⟩ = some (.int .i64 0) ∧
      VBlk w' b #[.slice (some ⟨c, 0, none⟩) 2 2] 22 ∧ VBlk w' c #[.int .i64 1, .int .i64 2] 3 ∧ (∀ B, B ≤ c → B ≤ w.heap.size → Below B w w') := by
  go_enter Tryz.func61, Tryz.ntmps61
  go_upto_region 2 with fail
  have hbl := hb.lt
  have hcl := hc.lt
  obtain ⟨f, hf⟩ : ∃ f, w.heap.size = f := ⟨_, rfl⟩
  obtain ⟨e, he⟩ : ∃ e, f + 1 = e := ⟨_, rfl⟩
  have n1 := VBlk.new w #[.int .i64 0, .slice none 0 0, .slice none 0 0, .int .i64 0] 75
  have n2 : VBlk ((w.alloc (.cells #[.int .i64 0, .slice none 0 0, .slice none 0 0, .int .i64 0] 75)).alloc (.cells #[.int .i64 7, .slice (some ⟨b, 0, none⟩) 1 1, .slice none 0 0, .int .i64 1] 75)) (w.heap.size + 1) #[.int .i64 7, .slice (some ⟨b, 0, none⟩) 1 1, .slice none 0 0, .int .i64 1] 75 := by
    have := VBlk.new (w.alloc (.cells #[.int .i64 0, .slice none 0 0, .slice none 0 0, .int .i64 0] 75)) #[.int .i64 7, .slice (some ⟨b, 0, none⟩) 1 1, .slice none 0 0, .int .i64 1] 75
    simpa using this
  have n1 := n1.below ((Below.refl _ _).alloc (Nat.le_refl _) (.cells #[.int .i64 7, .slice (some ⟨b, 0, none⟩) 1 1, .slice none 0 0, .int .i64 1] 75))
  have hE : Ext w ((w.alloc (.cells #[.int .i64 0, .slice none 0 0, .slice none 0 0, .int .i64 0] 75)).alloc (.cells #[.int .i64 7, .slice (some ⟨b, 0, none⟩) 1 1, .slice none 0 0, .int .i64 1] 75)) := ((Below.refl _ w).alloc (Nat.le_refl _) _).alloc (by simp) _
  have hb := hb.below hE
  have hc := hc.below hE
  rw [hf] at n1 n2
  rw [he] at n2
  have HB := Lib.hid (fun B (_ : B ≤ c) (h2 : B ≤ f) => hE.mono (by rw [hf]; exact h2))
  simp only [hf, he]
  generalize hVE : ((w.alloc (.cells #[.int .i64 0, .slice none 0 0, .slice none 0 0, .int .i64 0] 75)).alloc (.cells #[.int .i64 7, .slice (some ⟨b, 0, none⟩) 1 1, .slice none 0 0, .int .i64 1] 75)) = V at *
  clear hVE hE
  have hbe : b ≠ e := by omega
  have hce : c ≠ e := by omega
  have hel := n2.lt
  have hfl := n1.lt
  have hfe : f ≠ e := by omega
  have HCF := Lib.hid (show c < f ∧ f < e ∧ b < f by omega)
  have HF0 := Lib.hid hf
  clear hbl hcl he hf
  go_wp2
  refine wp_loop_rounds 3 ?_
  rw [rounds_succ]
  go_wp2_with fail
  refine (findPivot_yes e b c 0 V n2 hb hc).mono ?_
  rintro r w1 ⟨rfl, rfl⟩
  go_wp2_with fail
  refine (scalePivot_12 e b c 0 V n2 hb hc hbc (Ne.symm hce) (Ne.symm hbe)).mono ?_
  rintro r w1 ⟨⟨u1, rfl⟩, h2, hb2, hc2, hB2, hK2⟩
  have n1 := hK2 f _ _ hfe (by have := HCF.out; omega) n1
  have HB := Lib.hid (fun B (h1 : B ≤ c) (h2 : B ≤ f) => (HB.out B h1 h2).trans (hB2 B (by have := HCF.out; omega) h1))
  clear n2 hb hc hB2 hK2 hel hfl
  go_wp2_with fail
  refine (clearColumn_12 e b c 0 w1 h2 hb2 hc2).mono ?_
  rintro r w2 ⟨⟨u2, rfl⟩, rfl⟩
  have e2 := h2.c 2
  have f2 := h2.f 2
  have hown := OI.nil w1 w1.heap.size
  go_wp2_with (first | (at_builtin; refine wpList_append_int _ rfl (.tmp 23) (.tmp 25) rfl w1.heap.size _ [] 0 rfl rfl hown (Nat.le_refl _) (by simp) ?_; intro v' w3 hown3 hB3; obtain ⟨q, pc, rfl, hq1, hq2, hq3, hq4⟩ := hown3.form (by simp); have h3 := h2.below hB3; have e3' := h3.c 2; have f3' := h3.f 2; have q0 := hq4 0 (by simp)) | go_in)
  have o1 := only_set1 w3 e 2 (.slice (some ⟨q, 0, none⟩) 1 pc)
  have h4 : VBlk _ e #[.int .i64 7, .slice (some ⟨b, 0, none⟩) 1 1, .slice (some ⟨q, 0, none⟩) 1 pc, .int .i64 1] 75 := h3.set 2 (.slice (some ⟨q, 0, none⟩) 1 pc)
  have hb4 := (hb2.below hB3).only o1 hbe
  have hc4 := (hc2.below hB3).only o1 hce
  have n4 := (n1.below hB3).only o1 hfe
  have hqe : q ≠ e := by have := h2.lt; omega
  have hqf : q ≠ f := by have := n1.lt; omega
  have q4 := (World.cell?_of_block (w := w3) (a := ⟨q, 0, none⟩) (o1.block q hqe)).trans q0
  have HB4 := Lib.hid (fun B (h1 : B ≤ c) (h2' : B ≤ f) => Below.trans ((HB.out B h1 h2').trans (hB3.mono (by have := n1.lt; omega))) (o1.below (show B ≤ e by have := HCF.out; omega)))
  clear o1 h3 h2 hb2 hc2 n1 q0 hq1 hq2 hq3 hq4 hown3 hown e2 f2 e3' f3' HB hqe hB3
  generalize hVE : w3.setCell ⟨e, 2, none⟩ (.slice (some ⟨q, 0, none⟩) 1 pc) = W4 at *
  clear hVE
  rw [rounds_succ]
  go_wp2_with fail
  refine (findPivot_no e b c q pc W4 h4 hb4 hc4).mono ?_
  rintro r w5 ⟨rfl, rfl⟩
  go_wp2
  rw [rounds_succ]
  have g0 := h4.c 0
  have g1 := h4.c 1
  have g2 := h4.c 2
  have g3 := h4.c 3
  have x0 := n4.c 0
  have x1 := n4.c 1
  have x2 := n4.c 2
  have x3 := n4.c 3
  have f0 := n4.f 0
  have f1 := n4.f 1
  have f2 := n4.f 2
  have f3 := n4.f 3
  have m4 := (((n4.set 0 (.int .i64 7)).set 1 (.slice (some ⟨b, 0, none⟩) 1 1)).set 2 (.slice (some ⟨q, 0, none⟩) 1 pc)).set 3 (.int .i64 1)
  have y0 := m4.c 0
  have y1 := m4.c 1
  have y2 := m4.c 2
  have y3 := m4.c 3
  have o4 : Only f W4 ((((W4.setCell ⟨f, 0, none⟩ (.int .i64 7)).setCell ⟨f, 1, none⟩ (.slice (some ⟨b, 0, none⟩) 1 1)).setCell ⟨f, 2, none⟩ (.slice (some ⟨q, 0, none⟩) 1 pc)).setCell ⟨f, 3, none⟩ (.int .i64 1)) := ((((Only.refl f W4).setCell _ _).setCell _ _).setCell _ _).setCell _ _
  have HF := Lib.hid (And.intro ((World.cell?_of_block (w := W4) (a := ⟨q, 0, none⟩) (o4.block q hqf)).trans q4) (And.intro (hb4.only o4 (by have := HCF.out; omega)) (And.intro (hc4.only o4 (by have := HCF.out; omega)) (fun B (h1 : B ≤ c) (h2 : B ≤ w.heap.size) => Below.trans (HB4.out B h1 (by rw [HF0.out] at h2; exact h2)) (o4.below (show B ≤ f by rw [HF0.out] at h2; exact h2))))))
  clear m4 o4 hb4 hc4 n4 h4 q4 HB4
  go_wp2
  refine bodyPost_ret (v := .agg #[.int .i64 7, .slice (some ⟨b, 0, none⟩) 1 1, .slice (some ⟨q, 0, none⟩) 1 pc, .int .i64 1]) (by simp [results, Tryz.results61, go_sem, y0, y1, y2, y3]) rfl ⟨q, pc, rfl, HF.out.1, HF.out.2.1, HF.out.2.2.1, HF.out.2.2.2⟩

theorem residue_neg2 (w : World) : Calls Tryz.prog 53 #[.int .i64 (-2), .int .i64 7] w fun e w' => e = .returned (.int .i64 5) ∧ w = w' := residue_any (-2) 7 w (by omega) (by omega)

set_option maxRecDepth 100000 in
set_option maxHeartbeats 4000000 in
theorem kernel_12 (a g : Nat) (w : World) (h0 : w.cell? ⟨a, 0, none⟩ = some (.slice (some ⟨g, 0, none⟩) 2 2)) (h1 : w.cell? ⟨g, 0, none⟩ = some (.int .i64 1)) (h2 : w.cell? ⟨g, 1, none⟩ = some (.int .i64 2)) (hT : Table64 w) :
    Calls Tryz.prog 22 #[.slice (some ⟨a, 0, none⟩) 1 1, .int .i64 7] w fun r w' => ∃ v, r = .returned (.tuple #[.slice (some ⟨v, 0, none⟩) 2 2, .int .i64 0]) ∧ VBlk w' v #[.int .i64 5, .int .i64 1] 3 ∧ Ext w w' := by
  have hm2 := make_two
  go_enter Tryz.func22, Tryz.ntmps22
  go_wp2_with fail
  refine (residues_12 a g w h0 h1 h2 hT).mono ?_
  rintro r w1 ⟨b, c, rfl, hb, hc, hB, hC, hbc, hE⟩
  have k0 := (hE.cell (lt_of_cell h0)).trans h0
  clear h0 h1 h2 hT
  go_wp2_with fail
  refine (width_12 a g w1 k0).mono ?_
  rintro r w2 ⟨rfl, rfl⟩
  clear k0
  go_wp2_with fail
  refine (reduce_12 b c w1 hb hc hbc).mono ?_
  rintro r w3 ⟨q, pc, rfl, hq, hb3, hc3, hB3⟩
  have HE3 := Lib.hid (show Ext w w3 from Below.trans hE (hB3 w.heap.size hC (Below.size hE)))
  clear hb hc hB3 hE
  go_upto_region 6 with fail
  obtain ⟨e, he⟩ : ∃ e, w3.heap.size = e := ⟨_, rfl⟩
  have n1 := VBlk.new w3 #[.int .i64 7, .slice (some ⟨b, 0, none⟩) 1 1, .slice (some ⟨q, 0, none⟩) 1 pc, .int .i64 1] 75
  have hA : Ext w3 (w3.alloc (.cells #[.int .i64 7, .slice (some ⟨b, 0, none⟩) 1 1, .slice (some ⟨q, 0, none⟩) 1 pc, .int .i64 1] 75)) := (Below.refl _ w3).alloc (Nat.le_refl _) _
  have hb := hb3.below hA
  have hc := hc3.below hA
  have hq := (hA.cell (lt_of_cell hq)).trans hq
  have HE := Lib.hid (HE3.out.trans hA)
  rw [he] at n1
  simp only [he]
  generalize hVE : w3.alloc (.cells #[.int .i64 7, .slice (some ⟨b, 0, none⟩) 1 1, .slice (some ⟨q, 0, none⟩) 1 pc, .int .i64 1] 75) = V at *
  clear hVE hA hb3 hc3 HE3 he
  go_wp2_with fail
  refine (firstFree_12 e b c q pc V n1 hb hc hq).mono ?_
  rintro r w4 ⟨rfl, rfl⟩
  go_upto_region 11 with fail
  obtain ⟨v, hv⟩ : ∃ v, V.heap.size = v := ⟨_, rfl⟩
  have n2 := VBlk.new V #[.int .i64 0, .int .i64 1] 3
  have hA : Ext V (V.alloc (.cells #[.int .i64 0, .int .i64 1] 3)) := (Below.refl _ V).alloc (Nat.le_refl _) _
  have hn := n1.below hA
  have hb2 := hb.below hA
  have hc2 := hc.below hA
  have HE2 := Lib.hid (HE.out.trans hA)
  have hwv : w.heap.size ≤ v := by rw [← hv]; exact Below.size HE.out
  rw [hv] at n2
  simp only [hv]
  generalize hVE : V.alloc (.cells #[.int .i64 0, .int .i64 1] 3) = V2 at *
  clear hVE hA hb hc hq HE n1 hv
  have e1 := hn.c 1
  have b0 := hb2.c 0
  have c1 := hc2.c 1
  have v0 := n2.c 0
  have f0 := n2.f 0
  have o1 := only_set1 V2 v 0 (.int .i64 5)
  have HF := Lib.hid (And.intro (show VBlk _ v #[.int .i64 5, .int .i64 1] 3 from n2.set 0 (.int .i64 5)) (show Ext w _ from Below.trans HE2.out (o1.below hwv)))
  clear o1 n2 hn hb2 hc2
  go_wp2
  refine wp_loop_rounds 2 ?_
  rw [rounds_succ]
  go_wp2_with fail
  refine (residue_neg2 V2).mono ?_
  rintro r w5 ⟨rfl, rfl⟩
  go_wp2
  rw [rounds_succ]
  go_wp2
  go_ret2
  exact ⟨v, rfl, HF.out.1, HF.out.2⟩
end Go.Proofs.YtlpclahlolhjfaaGreatDoor

namespace Go.Proofs.YtlpclahlolhjfaaGreatDoor
open Go Go.RowKit

set_option maxRecDepth 100000 in
set_option maxHeartbeats 2000000 in
theorem ints_any (ao bo : Option Addr) (n m ca cb : Nat) (l k : List Int) (w : World) (ha : Ns w ao n ca l) (hb : Ns w bo m cb k) (hn : n ≤ 1000000) :
    Calls Tryz.prog 23 #[.slice ao n ca, .slice bo m cb] w fun e w' => e = .returned (.bool (decide (l = k))) ∧ Ext w w' := by
  have HA := Lib.hid ha
  have HB := Lib.hid hb
  have HLA := Lib.hid ha.len
  have HLB := Lib.hid hb.len
  obtain ⟨R, hR⟩ : ∃ R, decide (l = k) = R := ⟨_, rfl⟩
  rw [hR]
  have HR := Lib.hid hR
  clear hR ha hb
  by_cases hnm : n = m
  · subst hnm
    go_enter Tryz.func23, Tryz.ntmps23
    go_wp2
    go_loopw [5] (fun iv wr => ∃ j : Nat, j ≤ n ∧ iv = .int .i64 (j : Int) ∧ Hid (∀ i, i < j → l.getD i 0 = k.getD i 0) ∧ Ext w wr)
      (fun iv _ => n - (intOf iv).toNat)
    case atStart => exact ⟨0, Nat.zero_le _, rfl, Lib.hid (fun i h => absurd h (Nat.not_lt_zero _)), Ext.refl w⟩
    case round =>
      obtain ⟨j, hj, rfl, HE, hEx⟩ := hrel
      have HEX := Lib.hid hEx
      have HEX1 := Lib.hid (HEX.out.trans (Below.refl _ _).drew)
      by_cases hlt : j < n
      · obtain ⟨b1, o1, rfl, hc1⟩ := (HA.out.below hEx).cells (by omega)
        obtain ⟨b2, o2, rfl, hc2⟩ := (HB.out.below hEx).cells (by omega)
        have k1 := hc1 j hlt
        have k2 := hc2 j hlt
        obtain ⟨x, hx⟩ : ∃ x, l.getD j 0 = x := ⟨_, rfl⟩
        obtain ⟨y, hy⟩ : ∃ y, k.getD j 0 = y := ⟨_, rfl⟩
        rw [hx] at k1
        rw [hy] at k2
        have HXY := Lib.hid (And.intro hx hy)
        have hji : (j : Int) < (n : Int) := by omega
        clear hc1 hc2 hx hy hEx
        go_upto_region 6 with fail
        first | go_region | fail "r6"
        have HEX2 := Lib.hid (show Ext w wr.drew from HEX1.out)
        by_cases hxy : x = y
        · subst hxy
          have HE2 := Lib.hid (show ∀ i, i < j + 1 → l.getD i 0 = k.getD i 0 from fun i hi => by
            rcases Nat.lt_or_ge i j with h | h
            · exact HE.out i h
            · obtain rfl : i = j := by omega
              rw [HXY.out.1, HXY.out.2])
          go_wp2
          go_roundw
          case rel => exact ⟨j + 1, by omega, by go_num, HE2, HEX2.out⟩
          case measure => simp [intOf]; omega
        · have hr : R = false := by
            rw [← HR.out]
            refine decide_eq_false fun e => hxy ?_
            rw [← HXY.out.1, ← HXY.out.2, e]
          subst hr
          go_wp2
          go_ret
          exact ⟨rfl, HEX2.out⟩
      · obtain rfl : j = n := by omega
        have hr : R = true := by
          rw [← HR.out]
          refine decide_eq_true (List.ext_getElem (by rw [HLA.out, HLB.out]) fun i h1 h2 => ?_)
          have := HE.out i (by rw [← HLA.out]; exact h1)
          simpa [List.getD, h1, h2] using this
        subst hr
        clear HE hEx
        go_wp2
        go_ret
        exact ⟨rfl, HEX.out⟩
  · have hr : R = false := by
      rw [← HR.out]
      refine decide_eq_false fun e => hnm ?_
      rw [← HLA.out, ← HLB.out, e]
    subst hr
    have hnm' : (n : Int) ≠ (m : Int) := by omega
    go_enter Tryz.func23, Tryz.ntmps23
    go_wp2
    go_ret
    exact ⟨rfl, Ext.refl _⟩
end Go.Proofs.YtlpclahlolhjfaaGreatDoor

namespace Go.Proofs
open Go.Shelf
def Tryz.lays169_ren : Go.Shelf.Ren := ⟨fun | 169 => 69 | n => n, fun | 70 => 78 | 9 => 9 | 0 => 0 | 72 => 81 | 37 => 79 | 127 => 113 | 3 => 3 | 5 => 5 | n => n, fun | n => n⟩
theorem Tryz.lays169 : Go.Proofs.Lays.n169 Tryz.prog Tryz.lays169_ren := {
  mixed := by kernel_rfl
  f169 := Tryz.func69.trans (congrArg some (by kernel_rfl))
  t0 := Tryz.underlying0
  a0 := Tryz.isAgg0
  z0 := Tryz.sizeOf0
  v0 := Tryz.zeroValue0
  t3 := Tryz.underlying3
  a3 := Tryz.isAgg3
  z3 := Tryz.sizeOf3
  v3 := Tryz.zeroValue3
  t9 := Tryz.underlying9
  a9 := Tryz.isAgg9
  z9 := Tryz.sizeOf9
  v9 := Tryz.zeroValue9
  t37 := Tryz.underlying79
  a37 := Tryz.isAgg79
  z37 := Tryz.sizeOf79
  v37 := Tryz.zeroValue79
  t70 := Tryz.underlying78
  a70 := Tryz.isAgg78
  z70 := Tryz.sizeOf78
  v70 := Tryz.zeroValue78
  t72 := Tryz.underlying81
  a72 := Tryz.isAgg81
  z72 := Tryz.sizeOf81
  v72 := Tryz.zeroValue81
  t127 := Tryz.underlying113
  a127 := Tryz.isAgg113
  z127 := Tryz.sizeOf113
  v127 := Tryz.zeroValue113 }
theorem Tryz.Builder_Extra_169 : Builder.Extra Tryz.prog Tryz.lays169_ren := {
  sizeBuilder := by kernel_rfl
  liesBuilder := by kernel_rfl
  t5 := Tryz.underlying5
  a5 := Tryz.isAgg5
  z5 := Tryz.sizeOf5
  v5 := Tryz.zeroValue5
  infoByte := by kernel_rfl
  cellsByte := by kernel_rfl
  sizeByte := by kernel_rfl
  neB5 := by decide }
open Go.RowKit in
theorem Tryz.Builder_String_any_k (B b : Nat) (l : List UInt8) (w : World) (h : Lib.IsBuilderF 81 5 B b (Lib.byteCells l) w) (hBw : B ≤ w.heap.size) :
    Calls Tryz.prog 69 #[.pointer (some ⟨b, 0, none⟩)] w fun e w' => e = .returned (.string ⟨l.toArray⟩) ∧ (Lib.IsBuilderF 81 5 B b (Lib.byteCells l) w' ∧ Below B w w' ∧ Lib.OthersKept 5 (some b) w w') := Any.Builder_String_any_k Tryz.lays169 Tryz.Builder_Extra_169 B b l w h hBw
end Go.Proofs

namespace Go.Proofs.YtlpclahlolhjfaaGreatDoor
open Go.RowKit

theorem extra : Builder.Extra Tryz.prog Tryz.lays169_ren := Tryz.Builder_Extra_169

set_option maxRecDepth 100000 in
set_option maxHeartbeats 1000000 in
theorem copyCheck_fresh (b : Nat) (w : World) (h0 : w.cell? ⟨b, 0, none⟩ = some (.pointer none)) (hsh : w.shape? b = some (81, 2)) (hfz : w.frozen? ⟨b, 0, none⟩ = false) :
    Calls Tryz.prog 99 #[.pointer (some ⟨b, 0, none⟩)] w fun e w' => e = .returned (.tuple #[]) ∧ w' = w.setCell ⟨b, 0, none⟩ (.pointer (some ⟨b, 0, none⟩)) := by
  obtain ⟨j, hj, hjs⟩ := Option.map_eq_some_iff.1 extra.sizeBuilder
  go_enter Tryz.func99, Tryz.ntmps99
  go_wp2
  rw [Lib.run_to_unsafe w ⟨b, 0, none⟩ Tryz.underlying78 Tryz.underlying124 hj (by rw [hjs]; decide) hsh (Nat.zero_lt_succ 1)]
  simp only [Result.andThen]
  rw [Oper.upon_value]
  go_wp2
  rw [run_callFunc_extern Tryz.func123 (by kernel_rfl) (by kernel_rfl) (by kernel_rfl) (e := Extern.AbiNoEscape.same) (by kernel_rfl)]
  rw [Lib.run_noEscape]
  simp only [Result.andThen]
  rw [Oper.upon_value]
  go_wp2
  rw [Lib.run_from_unsafe w ⟨b, 0, none⟩ Tryz.underlying124 Tryz.underlying78 hj hsh extra.liesBuilder]
  simp only [Result.andThen]
  rw [Oper.upon_value]
  go_wp2
  go_end0
  exact ⟨rfl, rfl⟩

set_option maxRecDepth 100000 in
set_option maxHeartbeats 1000000 in
theorem copyCheck_used (b : Nat) (w : World) (h0 : w.cell? ⟨b, 0, none⟩ = some (.pointer (some ⟨b, 0, none⟩))) :
    Calls Tryz.prog 99 #[.pointer (some ⟨b, 0, none⟩)] w fun e w' => e = .returned (.tuple #[]) ∧ w' = w := by
  obtain ⟨j, hj, _⟩ := Option.map_eq_some_iff.1 extra.sizeBuilder
  go_enter Tryz.func99, Tryz.ntmps99
  go_wp2
  rw [Lib.run_neq_ptr_same w _ Tryz.underlying78 hj]
  go_wp2
  go_end0
  exact ⟨rfl, rfl⟩

/-- the check of a builder that nobody has copied -/
theorem copyCheck_any (B b : Nat) (bs : List Value) (w : World) (h : Lib.IsBuilderF 81 5 B b bs w) :
    Calls Tryz.prog 99 #[.pointer (some ⟨b, 0, none⟩)] w fun e w' => e = .returned (.tuple #[]) ∧ Lib.BuilderAtF 81 5 B b (.pointer (some ⟨b, 0, none⟩)) bs w' ∧ Below B w w' := by
  rcases h with h | h
  · refine (copyCheck_fresh b w h.cell0 h.shape h.frozen0).mono ?_
    rintro e w' ⟨rfl, rfl⟩
    exact ⟨rfl, h.used _, (Below.refl B w).setCell (p := ⟨b, 0, none⟩) h.1 _⟩
  · refine (copyCheck_used b w h.cell0).mono ?_
    rintro e w' ⟨rfl, rfl⟩
    exact ⟨rfl, h, Below.refl B _⟩

theorem frozen_two {w : World} {b : Nat} {u v : Value} {T : TypeId} (h : w.heap[b]? = some (.cells #[u, v] T (0, 0))) (o : Nat) : w.frozen? ⟨b, o, none⟩ = false := by
  simp [World.frozen?, h]
theorem cells_two {w : World} {b : Nat} {u v : Value} {T : TypeId} (h : w.heap[b]? = some (.cells #[u, v] T (0, 0))) : w.cell? ⟨b, 0, none⟩ = some u ∧ w.cell? ⟨b, 1, none⟩ = some v := by
  constructor <;> (rw [cell_of_row w b _ _ _ _ h]; rfl)

set_option maxRecDepth 100000 in
set_option maxHeartbeats 2000000 in
theorem writeByte_any (B b : Nat) (bs : List Value) (c : Int) (w : World) (h : Lib.IsBuilderF 81 5 B b bs w) (hlen : bs.length + 1 ≤ 1000000000) (hBw : B ≤ w.heap.size) :
    Calls Tryz.prog 63 #[.pointer (some ⟨b, 0, none⟩), .int .u8 c] w fun e w' => e = .returned .nilIface ∧ Lib.BuilderAtF 81 5 B b (.pointer (some ⟨b, 0, none⟩)) (bs ++ [.int .u8 c]) w' ∧ Below B w w' := by
  obtain ⟨i0, hi, hz0, hz1, hz2⟩ := info_parts extra.infoByte
  go_enter Tryz.func63, Tryz.ntmps63
  go_wp2_with fail
  refine (copyCheck_any B b bs _ h).mono ?_
  rintro e w1 ⟨rfl, h1, hb1⟩
  obtain ⟨hB, v, hbk, hown, hne⟩ := h1
  obtain ⟨c0, c1⟩ := cells_two hbk
  go_wp2_with (at_builtin; refine wpList_append_ownF _ rfl _ _ 79 rfl B 5 i0 (.int .u8 0) 1 1 Tryz.underlying79 hi hz0 hz1 hz2 rfl (by decide) _ _ _ rfl (hown.alloc _) ⟨w1.heap.size, 0, none⟩ 1 1 [.int .u8 c] rfl rfl ?c1 ?c2 ?c3 ?c4 ?c5 ?_)
  case c1 =>
    intro j u hj
    match j, hj with
    | 0, hj => simp at hj; subst hj; simp [Addr.add]
  case c2 => intro u hu; simp at hu; subst hu; rfl
  case c3 => unfold maxLen; omega
  case c4 => omega
  case c5 => have := hb1.size; simp; omega
  intro v' w2 hown' hgrow _
  have hlt : b < w1.heap.size := (Array.getElem?_eq_some_iff.1 hbk).1
  have hb2 : w2.heap[b]? = some (.cells #[.pointer (some ⟨b, 0, none⟩), v] 81 (0, 0)) := by
    rw [hgrow.block b (by simp; omega) (fun e => hne e.symm)]
    exact (heap_alloc_old w1 _ hlt).trans hbk
  obtain ⟨d0, d1⟩ := cells_two hb2
  have f1 := frozen_two hb2 1
  obtain ⟨ao, n', cap, rfl⟩ : ∃ ao n' cap, v' = .slice ao n' cap := by
    rcases hown'.2 with ⟨hv, _⟩ | ⟨g, cap, cur, fz, hv, _⟩
    · exact ⟨_, _, _, hv⟩
    · exact ⟨_, _, _, hv⟩
  go_wp2
  go_ret
  refine ⟨rfl, ?_, ?_⟩
  · exact Lib.BuilderAtF.put (T := 81) (e := 5) hB hb2 (bs' := bs ++ [.int .u8 c]) (by simpa using hown') extra.neB5
  · have hb1s := hb1.size
    exact ((hb1.alloc (by omega) _).grown hgrow (by simp; omega) (fun k hk => (hown.lt k hk).1)).setCell (p := ⟨b, 1, none⟩) hB _

end Go.Proofs.YtlpclahlolhjfaaGreatDoor
