import Derived.Test.YtkomhemjodbkpaaDoorTxU42
import Derived.Test.YtkomhemjodbkpaaDoorTxU39
import Derived.Test.YtkomhemjodbkpaaDoorTxU43
import Derived.Test.YtkomhemjodbkpaaDoorTxU40
import Derived.Test.YtkomhemjodbkpaaDoorTxU15
import Derived.Test.YtkomhemjodbkpaaDoorTxU46
import Derived.Deep.RegionHeld3
namespace Go.Proofs.YtkomhemjodbkpaaDoor
open Go Go.RowKit

set_option maxRecDepth 100000 in
set_option maxHeartbeats 8000000 in
theorem texts_yes (nb : Bool) (ao : Option Addr) (n ca : Nat) (x : Int) (s : ByteArray) (w : World) (hg : Bg w nb ao n ca x) (hdl : (Lib.decDigits x.natAbs).length ≤ 100000) (hn : n ≤ 40) (hs : s.size ≤ 2048) (hP : Pow10 w) :
    Calls Tryd.prog 3 #[.agg #[.bool nb, .slice ao n ca], .string s] w fun e w' => e = .returned (.bool true) ∧ Ext w w' := by
  obtain ⟨X, hX⟩ : ∃ X, (parseSays s.data.toList).1 = X := ⟨_, rfl⟩
  obtain ⟨E, hE⟩ : ∃ E, (parseSays s.data.toList).2 = E := ⟨_, rfl⟩
  obtain ⟨t, ht⟩ : ∃ t : ByteArray, (⟨(texI x).toArray⟩ : ByteArray) = t := ⟨_, rfl⟩
  have SL := Lib.hid (fun W => slim_yes nb ao n ca 40 W hn)
  have PA := Lib.hid (fun W => parse_any s (by omega) X E hX hE W)
  have PR := Lib.hid (fun W => refParse_any s (by omega) X E hX hE W)
  have FO := Lib.hid (fun W (hE : Ext w W) => format_any nb ao n ca x W (hg.below hE) (by omega) (hP.below hE) t ht)
  have FR := Lib.hid (fun W (hE : Ext w W) => refFormat_any nb ao n ca x W (hg.below hE) hdl t ht)
  clear hg hdl hn hX hE ht hP
  go_enter Tryd.func3, Tryd.ntmps3
  go_upto_region 1 with fail
  obtain ⟨W, hW, hB, hx, -⟩ := box_new w nb ao n ca
  rw [← hW]
  clear hW
  have HB := Lib.hid (show Ext w W from hB)
  generalize w.heap.size = B at hx ⊢
  clear hB
  have x0 := hx.c0
  have x1 := hx.c1
  go_wp2_with fail
  refine (SL.out _).mono ?_
  rintro e w1 ⟨rfl, hE⟩
  have hx := hx.below hE
  have HB := Lib.hid (Ext.trans HB.out hE)
  clear x0 x1 hE
  have hsz : ¬ (2048 : Int) < (s.size : Int) := by omega
  go_wp2_with fail
  refine (PA.out _).mono ?_
  rintro e w2 hpo
  obtain ⟨pn, po, pk, pc, rfl, hp, hE⟩ := hpo
  have hx := hx.below hE
  have HB := Lib.hid (Ext.trans HB.out hE)
  clear hE
  go_upto_region 4 with fail
  obtain ⟨W3, hW3, hE, hp3, -⟩ := box_new w2 pn po pk pc
  rw [← hW3]
  clear hW3
  have hx := hx.below hE
  have hp := hp.below hE
  have HB := Lib.hid (Ext.trans HB.out hE)
  generalize w2.heap.size = D at hp3 ⊢
  clear hE
  go_wp2_with fail
  refine (PR.out _).mono ?_
  rintro e w4 hpo
  obtain ⟨qn, qo, qk, qc, rfl, hq, hE⟩ := hpo
  have hx := hx.below hE
  have hp := hp.below hE
  have hp3 := hp3.below hE
  have HB := Lib.hid (Ext.trans HB.out hE)
  clear hE
  go_upto_region 5 with fail
  obtain ⟨V, hV, hE, hs5, -⟩ := box_new w4 qn qo qk qc
  rw [← hV]
  clear hV
  have hx := hx.below hE
  have hp := hp.below hE
  have hp3 := hp3.below hE
  have hq := hq.below hE
  have HB := Lib.hid (Ext.trans HB.out hE)
  generalize w4.heap.size = G at hs5 ⊢
  clear hE
  have HC := Lib.hid (show ∀ wx, Ext V wx → (wx.cell? ⟨B, 0, none⟩ = some (.bool nb) ∧ wx.cell? ⟨B, 1, none⟩ = some (.slice ao n ca)) ∧ (wx.cell? ⟨D, 0, none⟩ = some (.bool pn) ∧ wx.cell? ⟨D, 1, none⟩ = some (.slice po pk pc)) ∧ (wx.cell? ⟨G, 0, none⟩ = some (.bool qn) ∧ wx.cell? ⟨G, 1, none⟩ = some (.slice qo qk qc)) from fun wx h => ⟨⟨(hx.below h).c0, (hx.below h).c1⟩, ⟨(hp3.below h).c0, (hp3.below h).c1⟩, (hs5.below h).c0, (hs5.below h).c1⟩)
  have BI := Lib.hid (fun W (h : Ext V W) => big_eq pn qn po pk pc qo qk qc X X W (hp.below h) (hq.below h) rfl)
  have AW := Lib.hid (fun W (_ : Ext V W) => awake_any W)
  have st : Ext V V.drew := (Below.refl _ _).drew
  obtain ⟨⟨x0, x1⟩, ⟨p0, p1⟩, s0, s1⟩ := HC.out V (Ext.refl V)
  clear hx hp3 hs5 hp hq hs hsz
  go_region_held3 (fun wx => (wx.cell? ⟨B, 0, none⟩ = some (.bool nb) ∧ wx.cell? ⟨B, 1, none⟩ = some (.slice ao n ca)) ∧ (wx.cell? ⟨D, 0, none⟩ = some (.bool pn) ∧ wx.cell? ⟨D, 1, none⟩ = some (.slice po pk pc)) ∧ (wx.cell? ⟨G, 0, none⟩ = some (.bool qn) ∧ wx.cell? ⟨G, 1, none⟩ = some (.slice qo qk qc)))
    (first | exact HC.out _ (by assumption))
    (first
      | (go_at_call 9; (with_reducible refine (BI.out _ (by assumption)).mono ?_); rintro e w5 ⟨rfl, hE5⟩; have st : Ext V w5 := Ext.trans (by assumption) hE5)
      | (go_at_call 10; (with_reducible refine (FO.out _ (Ext.trans HB.out (by assumption))).mono ?_); rintro e w6 ⟨rfl, hE6⟩; have st : Ext V w6 := Ext.trans (by assumption) hE6)
      | (go_at_call 11; (with_reducible refine (FR.out _ (Ext.trans HB.out (by assumption))).mono ?_); rintro e w7 ⟨rfl, hE7⟩; have st : Ext V w7 := Ext.trans (by assumption) hE7)
      | (go_at_call 6; (with_reducible refine (AW.out _ (by assumption)).mono ?_); rintro e w8 ⟨rfl, hE8⟩; have st : Ext V w8 := Ext.trans (by assumption) hE8))
  have EX := Lib.hid (Ext.trans HB.out st)
  go_wp2
  go_ret
  exact ⟨rfl, EX.out⟩

theorem texts_wide (nb : Bool) (ao : Option Addr) (n ca : Nat) (s : ByteArray) (w : World) (hn : n ≤ 40) (hs : ¬ s.size ≤ 2048) :
    Calls Tryd.prog 3 #[.agg #[.bool nb, .slice ao n ca], .string s] w fun e w' => e = .returned (.bool true) ∧ Ext w w' := by
  have SL := Lib.hid (fun W => slim_yes nb ao n ca 40 W hn)
  have hsz : (2048 : Int) < (s.size : Int) := by omega
  go_enter Tryd.func3, Tryd.ntmps3
  go_upto_region 1 with fail
  obtain ⟨W, hW, hB, hx, -⟩ := box_new w nb ao n ca
  rw [← hW]
  clear hW
  have HB := Lib.hid (show Ext w W from hB)
  generalize w.heap.size = B at hx ⊢
  clear hB
  have x0 := hx.c0
  have x1 := hx.c1
  go_wp2_with fail
  refine (SL.out _).mono ?_
  rintro e w1 ⟨rfl, hE⟩
  have HB := Lib.hid (Ext.trans HB.out hE)
  clear x0 x1 hE hx
  go_wp2_with fail
  refine (awake_any _).mono ?_
  rintro e w2 ⟨rfl, hE⟩
  have HB := Lib.hid (Ext.trans HB.out hE)
  go_wp2
  go_ret
  exact ⟨rfl, HB.out⟩

theorem texts_no (nb : Bool) (ao : Option Addr) (n ca : Nat) (s : ByteArray) (w : World) (hn : ¬ n ≤ 40) :
    Calls Tryd.prog 3 #[.agg #[.bool nb, .slice ao n ca], .string s] w fun e w' => e = .returned (.bool true) ∧ Ext w w' := by
  have SL := Lib.hid (fun W => slim_no nb ao n ca 40 W hn)
  go_enter Tryd.func3, Tryd.ntmps3
  go_upto_region 1 with fail
  obtain ⟨W, hW, hB, hx, -⟩ := box_new w nb ao n ca
  rw [← hW]
  clear hW
  have HB := Lib.hid (show Ext w W from hB)
  generalize w.heap.size = B at hx ⊢
  clear hB
  have x0 := hx.c0
  have x1 := hx.c1
  go_wp2_with fail
  refine (SL.out _).mono ?_
  rintro e w1 ⟨rfl, hE⟩
  have HB := Lib.hid (Ext.trans HB.out hE)
  clear x0 x1 hE hx
  go_wp2_with fail
  refine (awake_any _).mono ?_
  rintro e w2 ⟨rfl, hE⟩
  have HB := Lib.hid (Ext.trans HB.out hE)
  go_wp2
  go_ret
  exact ⟨rfl, HB.out⟩


theorem texts_any (nb : Bool) (ao : Option Addr) (n ca : Nat) (s : ByteArray) (w : World) (hr : n ≤ 1099511627776 → ∃ zs, Sl w ao n ca zs) (hP : Pow10 w) :
    Calls Tryd.prog 3 #[.agg #[.bool nb, .slice ao n ca], .string s] w fun e w' => e = .returned (.bool true) ∧ Ext w w' := by
  by_cases h : n ≤ 40
  · by_cases h2 : s.size ≤ 2048
    · obtain ⟨zs, hz⟩ := hr (by omega)
      have hg : Bg w nb ao n ca (sgd nb zs) := ⟨⟨zs, hz, rfl⟩, by omega⟩
      refine texts_yes nb ao n ca (sgd nb zs) s w hg ?_ h h2 hP
      rw [sgd_natAbs hz.wf]
      have h1 := num_lt hz.wf
      rw [hz.len] at h1
      have h3 : (num zs).toNat < 4294967296 ^ n := by
        have h4 : ((4294967296 ^ n : Nat) : Int) = 4294967296 ^ n := by rw [Int.natCast_pow]; rfl
        have := num_nonneg hz.wf
        omega
      have h5 : 4294967296 ^ n ≤ 4294967296 ^ 40 := Nat.pow_le_pow_right (by omega) h
      have h6 : 4294967296 ^ 40 ≤ (10 ^ 10) ^ 40 := Nat.pow_le_pow_left (by omega) 40
      rw [← Nat.pow_mul] at h6
      have := dec_len (k := 10 * 40) (r := (num zs).toNat) (by omega) (by omega)
      omega
    · exact texts_wide nb ao n ca s w h h2
  · exact texts_no nb ao n ca s w h
end Go.Proofs.YtkomhemjodbkpaaDoor
