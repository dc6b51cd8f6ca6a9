import Derived.Test.YtapcecjbmcoliaaGrLlU34
import Derived.Test.YtapcecjbmcoliaaGrLlU33
import Derived.BigQuiet
namespace Go.Proofs.Ytapcecjbmcoliaa
open Go Go.RowKit

theorem cmp_neg (x y : Nat) : (Lib.compareInt (x : Int) (y : Int) < 0) ↔ x < y := by
  unfold Lib.compareInt
  split
  · omega
  · split <;> omega

set_option maxRecDepth 100000 in
set_option maxHeartbeats 4000000 in
theorem degCmp_any (ao : Option Addr) (n cap C x y : Nat) (a : Nat → Nat → Bool) (w : World) (h : Nss w ao n cap (adjM n a)) (hb : w.cell? ⟨C, 0, none⟩ = some (.slice ao n cap)) (hx : x < n) (hy : y < n) :
    Calls Try.prog 71 #[.int .i64 (x : Int), .int .i64 (y : Int), .pointer (some ⟨C, 0, none⟩)] w fun e w' => e = .returned (.int .i64 (Lib.compareInt (degN n a x : Int) (degN n a y : Int))) ∧ Ext w w' := by
  obtain ⟨b, off, rfl, hc⟩ := h.rows (by omega)
  obtain ⟨r1, c1, k1, _⟩ := hc x hx
  obtain ⟨r2, c2, k2, _⟩ := hc y hy
  rw [adjM_get a hx, rowZ_cast, castZ_len] at k1
  rw [adjM_get a hy, rowZ_cast, castZ_len] at k2
  have e1 : (rowN n a x).length = degN n a x := rfl
  have e2 : (rowN n a y).length = degN n a y := rfl
  rw [e1] at k1
  rw [e2] at k2
  generalize degN n a x = d1 at *
  generalize degN n a y = d2 at *
  have hxi : (x : Int) < (n : Int) := by omega
  have hyi : (y : Int) < (n : Int) := by omega
  have CC0 := fun wx => Try.cmp_Compare_int (d1 : Int) (d2 : Int) wx
  generalize Lib.compareInt (d1 : Int) (d2 : Int) = z at *
  have CC := Lib.hid (show ∀ wx : World, Calls Try.prog 72 #[.int .i64 (d1 : Int), .int .i64 (d2 : Int)] wx fun e w' => e = .returned (.int .i64 z) ∧ wx = w' from fun wx => (CC0 wx).mono fun _ _ h => ⟨h.1, h.2.symm⟩)
  clear CC0
  clear h hc e1 e2
  go_enter Try.func71, Try.ntmps71
  go_upto_region 1 with fail
  go_quiet ((go_at_call 72; exact quiet_left (CC.out _)))
  go_wp2
  go_ret
  exact ⟨rfl, ext_drewN _ _⟩

set_option maxRecDepth 100000 in
set_option maxHeartbeats 8000000 in
theorem minFunc_any (ao lo : Option Addr) (n cap ln lc C : Nat) (a : Nat → Nat → Bool) (L : List Nat) (w : World) (h : Nss w ao n cap (adjM n a)) (hb : w.cell? ⟨C, 0, none⟩ = some (.slice ao n cap)) (hl : Ns w lo ln lc (castZ L)) (hL : ∀ v ∈ L, v < n) (h0 : 0 < ln) (hlb : ln ≤ 1000000) :
    Calls Try.prog 70 #[.slice lo ln lc, .func (Fn.func 71) #[] #[.pointer (some ⟨C, 0, none⟩)]] w fun e w' => e = .returned (.int .i64 ((leastV n a L : Nat) : Int)) ∧ Ext w w' := by
  have hln : L.length = ln := by rw [← castZ_len]; exact hl.len
  have HLN := Lib.hid hln
  have HG := Lib.hid h
  have HB := Lib.hid (show ∀ wx, Ext w wx → wx.cell? ⟨C, 0, none⟩ = some (.slice ao n cap) from fun wx hx => (hx.cell (lt_of_cell hb)).trans hb)
  have HI := Lib.hid (show ∀ k, k < ln → L.getD k 0 ∈ L from fun k hk => by
    have h2 : k < L.length := by omega
    simp only [List.getD, List.getElem?_eq_getElem h2, Option.getD_some]
    exact List.getElem_mem h2)
  have HM := Lib.hid hL
  obtain ⟨b, off, rfl, hc0⟩ := hl.cells h0
  have HC := Lib.hid (show ∀ wx, Ext w wx → ∀ k, k < ln → wx.cell? ⟨b, off + k, none⟩ = some (.int .i64 ((L.getD k 0 : Nat) : Int)) from fun wx hx k hk => by
    have := hc0 k hk
    rw [castZ_get (by omega)] at this
    exact (hx.cell (lt_of_cell this)).trans this)
  have hnl : ¬ (ln : Int) < 1 := by omega
  have h0i : (0 : Int) < (ln : Int) := by omega
  have k0 := HC.out w (Ext.refl _) 0 h0
  have HT1 := Lib.hid (leastV_one (n := n) (a := a) (l := L) (by omega))
  clear h hb hl hL hc0 hln
  obtain ⟨x0, hx0⟩ : ∃ x, L.getD 0 0 = x := ⟨_, rfl⟩
  rw [hx0] at k0 HT1
  have hk00 : w.cell? ⟨b, off, none⟩ = some (.int .i64 (x0 : Int)) := k0
  clear hx0
  go_enter Try.func70, Try.ntmps70
  go_wp2
  go_loopw [5, 6] (fun mv iv wr => ∃ i : Nat, 1 ≤ i ∧ i ≤ ln ∧ iv = .int .i64 (i : Int) ∧ mv = .int .i64 ((leastV n a (L.take i) : Nat) : Int) ∧ Hid (Ext w wr)) (fun _ iv _ => ln - (intOf iv).toNat)
  case atStart => exact ⟨1, Nat.le_refl _, h0, rfl, by rw [HT1.out], Lib.hid (Ext.refl _)⟩
  case round =>
    clear k0 hk00
    obtain ⟨i, hi1, hi, rfl, rfl, hE⟩ := hrel
    by_cases hlt : i < ln
    · have hii : (i : Int) < (ln : Int) := by omega
      have k1 := HC.out _ hE.out i hlt
      obtain ⟨x, hx⟩ : ∃ x, L.getD i 0 = x := ⟨_, rfl⟩
      have hxn : x < n := by rw [← hx]; exact HM.out _ (HI.out i hlt)
      have ht := leastV_take (n := n) (a := a) (l := L) (k := i) (by rw [HLN.out]; exact hlt) (by omega)
      rw [hx] at k1 ht
      have hyn : leastV n a (L.take i) < n := by
        have := leastV_mem (n := n) (a := a) (k := i - 1) (l := L) (by rw [HLN.out]; omega)
        rw [show i - 1 + 1 = i by omega] at this
        exact HM.out _ this
      obtain ⟨y, hy⟩ : ∃ y, leastV n a (L.take i) = y := ⟨_, rfl⟩
      rw [hy] at ht hyn ⊢
      have CC := Lib.hid (degCmp_any ao n cap C x y a _ (HG.out.below hE.out) (HB.out _ hE.out) hxn hyn)
      have hneg := cmp_neg (degN n a x) (degN n a y)
      generalize Lib.compareInt (degN n a x : Int) (degN n a y : Int) = z at *
      have hneg := Lib.hid hneg
      have ht := Lib.hid ht
      have HX := Lib.hid hx
      clear hx hy
      go_wp2_with fail
      refine CC.out.mono ?_
      rintro e w2 ⟨rfl, hE2⟩
      have RE := Lib.hid (Ext.trans hE.out hE2)
      have k2 := HC.out _ RE.out i hlt
      rw [HX.out] at k2
      clear hE2 CC k1
      by_cases hz : z < 0
      · have HT := Lib.hid (show leastV n a (L.take (i + 1)) = x by rw [ht.out, if_pos (hneg.out.1 hz)])
        go_wp2
        go_roundw
        case rel => exact ⟨i + 1, by omega, by omega, by go_num, by rw [HT.out], RE⟩
        case measure => simp [intOf] <;> omega
      · have HT := Lib.hid (show leastV n a (L.take (i + 1)) = y by rw [ht.out, if_neg (fun h => hz (hneg.out.2 h))])
        go_wp2
        go_roundw
        case rel => exact ⟨i + 1, by omega, by omega, by go_num, by rw [HT.out], RE⟩
        case measure => simp [intOf] <;> omega
    · obtain rfl : ln = i := by omega
      have hnn : ¬ (ln : Int) < (ln : Int) := by omega
      rw [List.take_of_length_le (by rw [HLN.out]; exact Nat.le_refl _)]
      go_wp2
      go_ret
      exact ⟨rfl, hE.out⟩

set_option maxRecDepth 100000 in
set_option maxHeartbeats 8000000 in
theorem leastD_any (ao lo : Option Addr) (n cap ln lc : Nat) (a : Nat → Nat → Bool) (L : List Nat) (w : World) (h : Nss w ao n cap (adjM n a)) (hl : Ns w lo ln lc (castZ L)) (hL : ∀ v ∈ L, v < n) (h0 : 0 < ln) (hlb : ln ≤ 1000000) :
    Calls Try.prog 46 #[.agg #[.slice ao n cap], .slice lo ln lc] w fun e w' => e = .returned (.int .i64 ((leastV n a L : Nat) : Int)) ∧ Ext w w' := by
  have HLL := Lib.hid hl
  clear hl
  have HH := Lib.hid h
  clear h
  go_enter Try.func46, Try.ntmps46
  go_upto_region 1 with fail
  obtain ⟨V, hV, hEV, b1, -⟩ := gbox_val w (.slice ao n cap)
  rw [← hV]
  clear hV
  obtain ⟨C, hCe⟩ : ∃ C, w.heap.size = C := ⟨_, rfl⟩
  rw [hCe] at b1 ⊢
  have HN := Lib.hid (HH.out.below hEV)
  have HEV := Lib.hid hEV
  have HCV := Lib.hid hCe
  have k0 := b1.c
  have HB := Lib.hid b1
  have HBE := Lib.hid (show ∀ wx, Ext V wx → wx.cell? ⟨C, 0, none⟩ = some (.slice ao n cap) from fun wx hx => (HB.out.low hx HB.out.lt).c)
  clear hCe hEV b1 HB
  have CM := Lib.hid (minFunc_any ao lo n cap ln lc C a L V HN.out (HBE.out V (Ext.refl _)) (HLL.out.below HEV.out) hL h0 hlb)
  clear HBE
  go_wp2_with fail
  refine CM.out.mono ?_
  rintro e w2 ⟨rfl, hE⟩
  have RE := Lib.hid (Ext.trans HEV.out hE)
  clear hE CM
  go_wp2
  go_ret
  exact ⟨rfl, RE.out⟩
end Go.Proofs.Ytapcecjbmcoliaa
