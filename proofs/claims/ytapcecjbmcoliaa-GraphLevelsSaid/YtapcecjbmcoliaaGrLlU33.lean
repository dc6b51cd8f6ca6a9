import Derived.Test.YtapcecjbmcoliaaGrLlU32
namespace Go.Proofs.Ytapcecjbmcoliaa
open Go Go.RowKit

set_option maxRecDepth 100000 in
theorem isVertex_any (ao : Option Addr) (n cap : Nat) (M : List (List Int)) (v : Int) (w : World) (h : Nss w ao n cap M) (b : Bool) (hb : (decide (v ≥ 0) && decide (v < (n : Int))) = b) :
    Calls Try.prog 44 #[.agg #[.slice ao n cap], .int .i64 v] w fun e w' => e = .returned (.bool b) ∧ Ext w w' := by
  have HH := Lib.hid h
  clear h
  go_enter Try.func44, Try.ntmps44
  go_upto_region 1 with fail
  obtain ⟨V, hV, hEV, b1, -⟩ := gbox_val w (.slice ao n cap)
  rw [← hV]
  clear hV
  obtain ⟨C, hCe⟩ : ∃ C, w.heap.size = C := ⟨_, rfl⟩
  rw [hCe] at b1 ⊢
  have HN := Lib.hid (HH.out.below hEV)
  have HEV := Lib.hid hEV
  have HCV := Lib.hid hCe
  have k0 := b1.c
  have HB := Lib.hid b1
  have HBE := Lib.hid (show ∀ wx, Ext V wx → wx.cell? ⟨C, 0, none⟩ = some (.slice ao n cap) from fun wx hx => (HB.out.low hx HB.out.lt).c)
  clear hCe hEV b1 HB
  clear HBE HN
  by_cases h1 : v ≥ 0
  · by_cases h2 : v < (n : Int)
    · have e : b = true := by rw [← hb, decide_eq_true h1, decide_eq_true h2]; rfl
      subst e
      clear hb
      go_wp2
      go_ret
      exact ⟨rfl, HEV.out⟩
    · have e : b = false := by rw [← hb, decide_eq_true h1, decide_eq_false h2]; rfl
      subst e
      clear hb
      go_wp2
      go_ret
      exact ⟨rfl, HEV.out⟩
  · have e : b = false := by rw [← hb, decide_eq_false h1]; rfl
    subst e
    clear hb
    go_wp2
    go_ret
    exact ⟨rfl, HEV.out⟩

/-- the levels of a vertex -/
def lev0 (n : Nat) (a : Nat → Nat → Bool) (r : Nat) : List (List Nat) := levs n a (n + 1) ((List.replicate n false).set r true) [r]
/-- levels, behind the making of the table of those that are seen -/
theorem levels_new (ao : Option Addr) (n cap r : Nat) (a : Nat → Nat → Bool) (O : Obj) (hO : ∀ w : World, BoB (w.alloc O) w.heap.size (List.replicate n false)) (W : World) (h : Nss W ao n cap (adjM n a)) (hr : r < n) (hn : n ≤ 1000) (Y : World) (hY : Ext W Y) (hs : Y.heap = (W.alloc O).heap) :
    Calls Try.prog 45 #[.agg #[.slice ao n cap], .int .i64 (r : Int), .slice (some ⟨W.heap.size, 0, none⟩) n n] Y fun e w' => ∃ v rs, e = .returned v ∧ RS w' W.heap.size v rs ((lev0 n a r).map castZ) ∧ Ext W w' := by
  have hb := (hO W).same (w' := Y) (by rw [hs])
  have hsz : Y.heap.size = W.heap.size + 1 := by rw [hs]; simp
  refine (levels_any ao n cap W.heap.size n (W.heap.size + 1) r a (List.replicate n false) W Y hsz h hY (Nat.le_refl _) hb (by simp) hr hn).mono ?_
  rintro e w' ⟨v, rs, rfl, hrs, _, hu⟩
  exact ⟨v, rs, rfl, hrs.mono (Nat.le_succ _), hu.ext hY (Nat.le_refl _) (Nat.le_succ _)⟩

set_option maxRecDepth 100000 in
set_option maxHeartbeats 8000000 in
theorem levelsG_any (ao : Option Addr) (n cap r : Nat) (a : Nat → Nat → Bool) (w : World) (h : Nss w ao n cap (adjM n a)) (hg : GOk a) (hr : r < n) (hn : n ≤ 200) :
    Calls Try.prog 17 #[.agg #[.slice ao n cap], .int .i64 (r : Int)] w fun e w' => ∃ v rs, e = .returned v ∧ RS w' w.heap.size v rs ((lev0 n a r).map castZ) ∧ Ext w w' := by
  obtain ⟨O, hrun, hblk⟩ := make_bools n (by omega)
  have HBLK := Lib.hid hblk
  have HRUN := Lib.hid hrun
  clear hblk hrun
  have HH := Lib.hid h
  clear h
  go_enter Try.func17, Try.ntmps17
  go_upto_region 1 with fail
  obtain ⟨V, hV, hEV, b1, -⟩ := gbox_val w (.slice ao n cap)
  rw [← hV]
  clear hV
  obtain ⟨C, hCe⟩ : ∃ C, w.heap.size = C := ⟨_, rfl⟩
  rw [hCe] at b1 ⊢
  have HN := Lib.hid (HH.out.below hEV)
  have HEV := Lib.hid hEV
  have HCV := Lib.hid hCe
  have k0 := b1.c
  have HB := Lib.hid b1
  have HBE := Lib.hid (show ∀ wx, Ext V wx → wx.cell? ⟨C, 0, none⟩ = some (.slice ao n cap) from fun wx hx => (HB.out.low hx HB.out.lt).c)
  clear hCe hEV b1 HB
  have C1 := Lib.hid (checkG_any ao n cap a V HN.out hg hn)
  have C2 := Lib.hid (fun wx (hx : Ext V wx) => isVertex_any ao n cap (adjM n a) (r : Int) wx (HN.out.below hx) true (by rw [decide_eq_true (show (r : Int) < (n : Int) by omega), decide_eq_true (show (r : Int) ≥ 0 by omega)]; rfl))
  clear hg
  go_wp2_with fail
  refine C1.out.mono ?_
  rintro e w2 ⟨rfl, hE⟩
  have k0 := HBE.out _ hE
  have RE := Lib.hid hE
  clear hE C1
  go_wp2_with fail
  refine (C2.out _ RE.out).mono ?_
  rintro e w3 ⟨rfl, hE⟩
  have RF := Lib.hid (Ext.trans RE.out hE)
  clear hE C2 k0
  have k0 := HBE.out _ RF.out
  have CL := Lib.hid (fun Y (hY : Ext w3 Y) (hs : Y.heap = (w3.alloc O).heap) => levels_new ao n cap r a O HBLK.out w3 (HN.out.below RF.out) hr (by omega) Y hY hs)
  have HXO := Lib.hid (show Ext w3 (w3.alloc O) from (Below.refl _ _).alloc (Nat.le_refl _) _)
  have HSZ := Lib.hid (show C ≤ w3.heap.size from by rw [← HCV.out]; exact (Ext.trans HEV.out RF.out).size)
  have hrun := HRUN.out
  have C0 := Lib.hid (CL.out (w3.alloc O) HXO.out rfl)
  have C1 := Lib.hid (CL.out (w3.alloc O).drew (Below.drew HXO.out) rfl)
  have C2 := Lib.hid (CL.out (w3.alloc O).drew.drew (Below.drew (Below.drew HXO.out)) rfl)
  have k0' := HBE.out _ (Ext.trans RF.out HXO.out)
  clear CL HXO
  go_upto_region 3 with fail
  go_cut [4] from 14 (fun v wx => ∃ lv rs, v = lv ∧ Hid (RS wx C lv rs ((lev0 n a r).map castZ)) ∧ Hid (Ext w wx))
  case first =>
    go_region_with (first
      | (go_at_call 45; (with_reducible refine C0.out.mono ?_); rintro e w4 ⟨v, rs, rfl, hrs, hw4⟩)
      | (go_at_call 45; (with_reducible refine C1.out.mono ?_); rintro e w4 ⟨v, rs, rfl, hrs, hw4⟩)
      | (go_at_call 45; (with_reducible refine C2.out.mono ?_); rintro e w4 ⟨v, rs, rfl, hrs, hw4⟩))
    all_goals
      have RR := Lib.hid (hrs.mono HSZ.out)
      have RG := Lib.hid (Ext.trans HEV.out (Ext.trans RF.out hw4))
      go_wp2
      go_meet
    all_goals exact ⟨_, _, rfl, RR, RG⟩
  case rest =>
    obtain ⟨lv, rs, rfl, hR, hE⟩ := hcut
    go_wp2
    go_ret
    exact ⟨_, _, rfl, by rw [HCV.out]; exact hR.out, hE.out⟩
end Go.Proofs.Ytapcecjbmcoliaa
