import Derived.Test.YtapcecjbmcoliaaGrLlU30
import Derived.Test.YtapcecjbmcoliaaGrLlU31
namespace Go.Proofs.Ytapcecjbmcoliaa
open Go Go.RowKit

def vlen : Value → Nat
  | .slice _ n _ => n
  | _ => 0
theorem OZ.one (w : World) (B : Nat) (y : Int) (hB : B ≤ w.heap.size) : OZ (w.alloc (.cells #[.int .i64 y] 3)) B (.slice (some ⟨w.heap.size, 0, none⟩) 1 1) [y] := by
  refine ⟨rfl, .inr ⟨w.heap.size, 1, #[.int .i64 y], rfl, hB, heap_alloc_new _ _, Nat.le_refl _, by decide, rfl, rfl⟩⟩
theorem OZ.upto {w w' : World} {B C sb : Nat} {v : Value} {L : List Int} (h : OZ w B v L) (hu : Upto C sb w w') (hC : w.heap.size ≤ C) (hs : sb < B) : OZ w' B v L :=
  h.far fun k hk => by
    have := h.blk k hk
    exact hu.blk k (by omega) (by omega)
theorem RS.upto {w w' : World} {B C sb : Nat} {v : Value} {rs : List Value} {M : List (List Int)} (h : RS w B v rs M) (hu : Upto C sb w w') (hC : w.heap.size ≤ C) (hs : sb < B) : RS w' B v rs M :=
  h.far (fun k hk => by
    have := World.ownsRow.lt h.own k hk
    exact hu.blk k (by omega) (by omega)) (fun i k hi hk => by
    have := (h.row i hi).blk k hk
    exact hu.blk k (by omega) (by omega))

theorem OZ.nsAt {w : World} {B m yc : Nat} {yo : Option Addr} {L : List Int} (h : OZ w B (.slice yo m yc) L) : Ns w yo m yc L := by
  obtain ⟨ao, cap, e, h2⟩ := h.nsV
  cases e
  exact h2

set_option maxRecDepth 100000 in
set_option maxHeartbeats 8000000 in
theorem levels_any (ao : Option Addr) (n cap sb sc B r : Nat) (a : Nat → Nat → Bool) (S : List Bool) (w0 w : World) (hBw : w.heap.size = B) (hg : Nss w0 ao n cap (adjM n a)) (h0 : Ext w0 w) (hsb : w0.heap.size ≤ sb)
    (hs : BoB w sb S) (hS : S.length = n) (hr : r < n) (hn : n ≤ 1000) :
    Calls Try.prog 45 #[.agg #[.slice ao n cap], .int .i64 (r : Int), .slice (some ⟨sb, 0, none⟩) n sc] w fun e w' => ∃ v rs, e = .returned v ∧ RS w' B v rs ((levs n a (n + 1) (S.set r true) [r]).map castZ) ∧ BoB w' sb (seenL (S.set r true) (levs n a (n + 1) (S.set r true) [r])) ∧ Upto B sb w w' := by
  have hsB : sb < B := by rw [← hBw]; exact hs.lt
  have hok0 := start_ok hr hS
  obtain ⟨S0, hSe⟩ : ∃ S0, S.set r true = S0 := ⟨_, rfl⟩
  rw [hSe] at hok0 ⊢
  have HOK := Lib.hid hok0
  have HSE := Lib.hid hSe
  clear hok0 hSe
  have hri : (r : Int) < (n : Int) := by omega
  go_enter Try.func45, Try.ntmps45
  go_upto_region 1 with fail
  obtain ⟨V, hV, hEV, b1, hsz⟩ := gbox_val w (.slice ao n cap)
  rw [← hV]
  clear hV
  rw [hBw] at b1 hsz
  have hEV' : Below B w V := by rw [← hBw]; exact hEV
  have HU := Lib.hid (show ∀ wx, Upto (B + 1) sb V wx → Upto B sb w wx from fun wx h => (Upto.below hEV' (Nat.le_refl _)).trans (h.mono (by omega)))
  have HE0 := Lib.hid (show ∀ wx, Upto (B + 1) sb V wx → Ext w0 wx from fun wx h => (HU.out wx h).ext h0 hsb (by rw [← hBw]; exact h0.size))
  have HG := Lib.hid hg
  have HSB := Lib.hid hsb
  have HBX := Lib.hid (show ∀ wx, Upto (B + 1) sb V wx → wx.cell? ⟨B, 0, none⟩ = some (.slice ao n cap) from fun wx h => (b1.upto h (by omega) (by omega)).c)
  have hS0 := hs.below hEV' hsB
  have q0 := hS0.c (j := r) (by rw [hS]; exact hr)
  have q1 := hS0.f r
  have hS1 := hS0.set (j := r) true
  rw [HSE.out] at hS1
  have hU1 : Upto (B + 1) sb V (V.setCell ⟨sb, r, none⟩ (.bool true)) := Upto.only (only_set1 V sb r (.bool true))
  have hD1 : B + 1 ≤ (V.setCell ⟨sb, r, none⟩ (.bool true)).heap.size := by rw [(only_set1 V sb r (.bool true)).size]; omega
  clear hg hs hEV hEV' b1 hsz hBw h0 hsb hS hS0
  go_upto_region 3 with fail
  clear q0 q1
  generalize V.setCell ⟨sb, r, none⟩ (.bool true) = W at *
  have hEW : Ext W (W.alloc (.cells #[.int .i64 (r : Int)] 3)) := (Below.refl _ _).alloc (Nat.le_refl _) _
  have HO := Lib.hid (OZ.one W (B + 1) (r : Int) hD1)
  have HM := Lib.hid (hS1.below hEW hS1.lt)
  have HUW := Lib.hid (hU1.trans (Upto.below (Below.mono hEW hD1) (Nat.le_refl _)))
  have HDW := Lib.hid (Nat.le_trans hD1 hEW.size)
  clear hS1 hU1 hD1 hEW
  go_wp2
  go_loopw [7, 8] (fun lv yv wr => ∃ (lw yw : Value) (P : List (List Nat)) (rs : List Value) (l : List Nat) (f C : Nat) (S' : List Bool), lw = lv ∧ yw = yv ∧ Hid (LevAt n a S0 [r] P f S' l) ∧ Hid (RS wr (B + 1) lw rs (P.map castZ)) ∧ Hid (OZ wr C yw (castZ l)) ∧ Hid (∀ k, lw.ownBlock = some k ∨ (∃ i, i < rs.length ∧ (rs.getD i nilV).ownBlock = some k) → k < C) ∧ B + 1 ≤ C ∧ C ≤ wr.heap.size ∧ Hid (BoB wr sb S') ∧ Hid (Upto (B + 1) sb V wr))
    (fun lv _ _ => n + 2 - vlen lv)
  case atStart => exact ⟨_, _, [], [], [r], n + 1, B + 1, S0, rfl, rfl, Lib.hid (LevAt.start HOK.out), Lib.hid (RS.nil _ _), HO, Lib.hid (fun k hk => by
      rcases hk with hk | ⟨i, hi, _⟩
      · cases hk
      · exact absurd hi (Nat.not_lt_zero _)), Nat.le_refl _, HDW.out, HM, HUW⟩
  case round =>
    clear HO HM HUW HDW
    obtain ⟨lw, yw, P, rs, l, f, C, S', rfl, rfl, hA, hRS, hOZ, hfar, hBC, hCs, hM, hU⟩ := hrel
    obtain ⟨po, pc, rfl, -⟩ := hRS.out.slE
    obtain ⟨yo, yc, rfl⟩ := hOZ.out.slE
    obtain ⟨p, hp⟩ : ∃ p, rs.length = p := ⟨_, rfl⟩
    have hpP : P.length = p := by have := hRS.out.len; rw [List.length_map] at this; omega
    have hRSp := hRS.out
    rw [hp] at hRSp ⊢
    rw [castZ_len] at *
    have HPL := Lib.hid hpP
    have HRP := Lib.hid hp
    clear hp hRS hpP
    by_cases hl0 : l = []
    · have hA2 := hA.out
      rw [hl0] at hA2
      obtain ⟨e1, e2⟩ := hA2.done
      rw [e2] at hM
      rw [← e1] at hM hRSp
      have hlz : l.length = 0 := by rw [hl0]; rfl
      have hgt : ¬ (l.length : Int) > 0 := by omega
      obtain ⟨m, hm⟩ : ∃ m, l.length = m := ⟨_, rfl⟩
      rw [hm] at hgt ⊢
      have RS := Lib.hid (hRSp.mono (C := B) (by omega))
      have RU := Lib.hid (HU.out _ hU.out)
      clear hA hA2 hRSp hOZ hfar hU e1 e2 hlz hm
      go_wp2
      go_ret
      exact ⟨_, rfl, ⟨_, RS.out⟩, hM.out, RU.out⟩
    · have hlp : 0 < l.length := List.length_pos_iff.2 hl0
      obtain ⟨hPn, g, hA2⟩ := hA.out.next hl0
      have HA2 := Lib.hid hA2
      have hok := hA.out.ok
      have HLT := Lib.hid hok.lt
      have HSL := Lib.hid hok.len
      have hln : l.length ≤ n := nodup_le (hok.up.imp (fun h => Nat.ne_of_lt h)) hok.lt
      obtain ⟨m, hm⟩ : ∃ m, l.length = m := ⟨_, rfl⟩
      have hpn : p ≤ n := by rw [← HPL.out]; exact hPn
      have hrl2 : rs.length ≤ 1000000 := by rw [HRP.out]; omega
      have hgt : (m : Int) > 0 := by omega
      have hOZ1 := hOZ.out
      have hfar1 : ∀ k, (Value.slice po p pc).ownBlock = some k ∨ (∃ i, i < rs.length ∧ (rs.getD i nilV).ownBlock = some k) → k < C := fun k hk => hfar.out k (by rw [HRP.out] at hk ⊢; exact hk)
      have hD2 : B + 1 ≤ wr.heap.size := by omega
      have HM6 := Lib.hid (show m ≤ 1000000 by omega)
      have HRL := Lib.hid (show P.length = rs.length by rw [HRP.out, HPL.out])
      rw [hm] at hOZ1 ⊢
      have HU2 := hU
      have HB2 := hM
      clear hA hA2 hOZ hfar hok hm hPn
      go_wp2_with (at_builtin; refine wpList_append_rs _ rfl (.tmp 21) (.tmp 23) rfl (B + 1) C _ rs (P.map castZ) _ (castZ l) rfl rfl hRSp hOZ1 hBC hfar1 hD2 hrl2 ?_)
      intro lv' w2 hRS2 hB2
      obtain ⟨p2, pc2, rfl, -⟩ := hRS2.slE
      have hU2 := HU2.out.trans (Upto.below hB2 (Nat.le_refl _))
      have hS2 := HB2.out.below hB2 (by omega)
      have k0 := HBX.out _ hU2
      have hrow := hRS2.row P.length (by simp [HPL.out, HRP.out])
      have e1 : (rs ++ [Value.slice yo m yc]).getD P.length nilV = .slice yo m yc := by rw [HRL.out]; exact getD_end
      have e2 : (P.map castZ ++ [castZ l]).getD P.length [] = castZ l := by
        have : P.length = (P.map castZ).length := by simp
        rw [this]
        exact getD_end
      rw [e1, e2] at hrow
      obtain ⟨lb, hLB⟩ : ∃ s, w2.heap.size = s := ⟨_, rfl⟩
      have hLS : lb ≥ B + 1 := by have := hB2.size; omega
      have CU := Lib.hid (unseenN_any ao yo n cap m yc sb sc lb a l S' w0 w2 hLB HG.out (HE0.out _ hU2) HSB.out (fun w' hw' => (hrow.upto hw' (Nat.le_of_eq hLB) (by omega)).nsAt) hS2 HSL.out HLT.out hn HM6.out)
      have hln2 : (rs ++ [Value.slice yo m yc]).length = p + 1 := by simp [HRP.out]
      have HLN2 := Lib.hid hln2
      have HRS2 := Lib.hid hRS2
      have HLB := Lib.hid hLB
      have HU3 := Lib.hid hU2
      rw [hln2]
      clear hRS2 hB2 hU2 hS2 hrow e1 e2 hLB hln2 hOZ1 hfar1 hRSp HU2 HB2 hM hU
      go_wp2_with fail
      refine CU.out.mono ?_
      rintro e w3 ⟨v, rfl, hoz, hbo, hu⟩
      have RRS := Lib.hid (HRS2.out.upto hu (Nat.le_of_eq HLB.out) (by omega))
      have RF := Lib.hid (show ∀ k, (Value.slice p2 (rs ++ [Value.slice yo m yc]).length pc2).ownBlock = some k ∨ (∃ i, i < (rs ++ [Value.slice yo m yc]).length ∧ ((rs ++ [Value.slice yo m yc]).getD i nilV).ownBlock = some k) → k < lb from fun k hk => by have := HRS2.out.lt k hk; rw [HLB.out] at this; exact this)
      rw [HLN2.out] at RRS RF
      have RO := Lib.hid hoz
      have RB := Lib.hid hbo
      have RU := Lib.hid (HU3.out.trans (hu.mono hLS))
      have RS3 := Nat.le_trans (Nat.le_of_eq HLB.out.symm) hu.size
      have HMP := Lib.hid (show (P ++ [l]).map castZ = P.map castZ ++ [castZ l] by simp)
      rw [← HMP.out] at RRS
      clear hoz hbo hu CU HRS2 HU3 k0
      go_wp2
      go_roundw
      case rel => exact ⟨_, _, P ++ [l], rs ++ [Value.slice yo m yc], _, g, lb, _, rfl, rfl, HA2, RRS, RO, by rw [HLN2.out]; exact RF, hLS, RS3, RB, RU⟩
      case measure => simp [vlen]; omega
end Go.Proofs.Ytapcecjbmcoliaa
