import Derived.Test.YtapcecjbmcoliaaGrLlU27
import Derived.Test.YtapcecjbmcoliaaGrLlU29
namespace Go.Proofs.Ytapcecjbmcoliaa
open Go Go.RowKit

theorem GBox.upto {w w' : World} {g sb B : Nat} {v : Value} (h : GBox w g v) (hb : Upto B sb w w') (hg : g < B) (hne : g ≠ sb) : GBox w' g v := by
  unfold GBox VBlk at h ⊢
  rw [hb.blk g hg hne]; exact h
/-- what was there ahead of the block sb stays -/
theorem Upto.ext {B sb : Nat} {u v w : World} (h : Upto B sb v w) (h0 : Ext u v) (h1 : u.heap.size ≤ sb) (h2 : u.heap.size ≤ B) : Ext u w := Below.trans h0 (h.to h1 h2)

set_option maxRecDepth 100000 in
set_option maxHeartbeats 8000000 in
theorem unseenN_any (ao lo : Option Addr) (n cap ln lc sb sc B : Nat) (a : Nat → Nat → Bool) (L : List Nat) (S : List Bool) (w0 w : World) (hBw : w.heap.size = B) (hg : Nss w0 ao n cap (adjM n a)) (h0 : Ext w0 w) (hsb : w0.heap.size ≤ sb) (hl : ∀ w', Upto B sb w w' → Ns w' lo ln lc (castZ L))
    (hs : BoB w sb S) (hS : S.length = n) (hL : ∀ v ∈ L, v < n) (hn : n ≤ 1000) (hlb : ln ≤ 1000000) :
    Calls Try.prog 69 #[.agg #[.slice ao n cap], .slice lo ln lc, .slice (some ⟨sb, 0, none⟩) n sc] w fun e w' => ∃ v, e = .returned v ∧ OZ w' B v (castZ (nxt n a S L)) ∧ BoB w' sb (markL S (nxt n a S L)) ∧ Upto B sb w w' := by
  have hln : L.length = ln := by rw [← castZ_len]; exact (hl w (Upto.refl _ _ _)).len
  have HL := Lib.hid hL
  have HLN := Lib.hid hln
  have HSL := Lib.hid hS
  have hsB : sb < B := by rw [← hBw]; exact hs.lt
  go_enter Try.func69, Try.ntmps69
  go_upto_region 1 with fail
  obtain ⟨V, hV, hEV, b1, hsz⟩ := gbox_val w (.slice ao n cap)
  rw [← hV]
  clear hV
  rw [hBw] at b1 hsz
  have hEV' : Below B w V := by rw [← hBw]; exact hEV
  have HU := Lib.hid (show ∀ wx, Upto (B + 1) sb V wx → Upto B sb w wx from fun wx h => (Upto.below hEV' (Nat.le_refl _)).trans (h.mono (by omega)))
  have HE0 := Lib.hid (show ∀ wx, Upto (B + 1) sb V wx → Ext w0 wx from fun wx h => (HU.out wx h).ext h0 hsb (by rw [← hBw]; exact h0.size))
  have HG := Lib.hid hg
  have HLL := Lib.hid (show ∀ wx, Upto (B + 1) sb V wx → Ns wx lo ln lc (castZ L) from fun wx h => hl wx (HU.out wx h))
  have HBX := Lib.hid (show ∀ wx, Upto (B + 1) sb V wx → wx.cell? ⟨B, 0, none⟩ = some (.slice ao n cap) from fun wx h => (b1.upto h (by omega) (by omega)).c)
  have HS0 := Lib.hid (hs.below hEV' hsB)
  have hV1 : B + 1 ≤ V.heap.size := by omega
  clear hg hl hs hL hEV hEV' b1 hsz hBw hln h0 hsb hS
  go_wp2
  go_loopw [7, 14] (fun fv iv wr => ∃ (i : Nat) (fw : Value), i ≤ ln ∧ iv = .int .i64 (i : Int) ∧ fw = fv ∧ Hid (OZ wr (B + 1) fw (castZ (newL S ((L.take i).flatMap (rowN n a))))) ∧ Hid (BoB wr sb (markL S (newL S ((L.take i).flatMap (rowN n a))))) ∧ Hid (Upto (B + 1) sb V wr) ∧ B + 1 ≤ wr.heap.size)
    (fun _ iv _ => ln - (intOf iv).toNat)
  case atStart => exact ⟨0, _, Nat.zero_le _, rfl, rfl, Lib.hid (OZ.nil _ _), by rw [List.take_zero, List.flatMap_nil, newL_nil, mark_nil]; exact HS0, Lib.hid (Upto.refl _ _ _), hV1⟩
  case round =>
    clear HS0 hV1
    obtain ⟨i, fw, hi, rfl, rfl, hF, hM, hU, hD⟩ := hrel
    by_cases hlt : i < ln
    · have hii : (i : Int) < (ln : Int) := by omega
      obtain ⟨lb, lof, rfl, hlc⟩ := (HLL.out _ hU.out).cells (by omega)
      have k1 := hlc i hlt
      rw [castZ_get (by rw [HLN.out]; exact hlt)] at k1
      obtain ⟨v, hv⟩ : ∃ v, L.getD i 0 = v := ⟨_, rfl⟩
      have hvn : v < n := by
        rw [← hv]
        refine HL.out _ ?_
        have h2 : i < L.length := by rw [HLN.out]; exact hlt
        simp only [List.getD, List.getElem?_eq_getElem h2, Option.getD_some]
        exact List.getElem_mem h2
      have HFT := Lib.hid (flat_take (L := L) (i := i) (by rw [HLN.out]; exact hlt) (rowN n a))
      rw [hv] at k1 HFT
      have hvi : (v : Int) < (n : Int) := by omega
      obtain ⟨gb, gof, rfl, hgc⟩ := HG.out.rows (by omega)
      obtain ⟨ri, ci, k2, hns⟩ := hgc v hvn
      rw [adjM_get a hvn] at k2 hns
      rw [← (HE0.out _ hU.out).cell (p := ⟨gb, gof + v, none⟩) (lt_of_cell k2)] at k2
      have k0 := HBX.out _ hU.out
      rw [rowZ_cast, castZ_len] at k2 hns
      obtain ⟨R, hR⟩ : ∃ R, rowN n a v = R := ⟨_, rfl⟩
      have HRL := Lib.hid (show ∀ x ∈ R, x < n from fun x hx => by rw [← hR] at hx; exact (mem_rowN.1 hx).1)
      rw [hR] at k2 hns HFT
      obtain ⟨m, hm⟩ : ∃ m, R.length = m := ⟨_, rfl⟩
      rw [hm] at k2 hns
      have hm6 : m ≤ 1000 := by rw [← hm, ← hR]; exact Nat.le_trans (List.length_filter_le _ _) (by rw [List.length_range]; exact hn)
      have HRN := Lib.hid (show ∀ wx, Upto (B + 1) sb V wx → Ns wx ri m ci (castZ R) from fun wx hx => hns.below (HE0.out wx hx))
      have HM := Lib.hid hm
      obtain ⟨X, hX⟩ : ∃ X, (L.take i).flatMap (rowN n a) = X := ⟨_, rfl⟩
      have HXL := Lib.hid (show ∀ x ∈ X, x < n from fun x hx => by rw [← hX] at hx; exact scan_lt n a _ x hx)
      rw [hX] at hF hM HFT
      clear hv hlc hgc hns hR hm hX
      go_wp2
      go_loopw [7, 24] (fun fv kv wx => ∃ (k : Nat) (fw : Value), k ≤ m ∧ kv = .int .i64 (k : Int) ∧ fw = fv ∧ Hid (OZ wx (B + 1) fw (castZ (newL S (X ++ R.take k)))) ∧ Hid (BoB wx sb (markL S (newL S (X ++ R.take k)))) ∧ Hid (Upto (B + 1) sb V wx) ∧ B + 1 ≤ wx.heap.size)
        (fun _ kv _ => m - (intOf kv).toNat)
      case atStart => exact ⟨0, _, Nat.zero_le _, rfl, rfl, by rw [List.take_zero, List.append_nil]; exact hF, by rw [List.take_zero, List.append_nil]; exact hM, hU, hD⟩
      case round =>
        clear k0 k1 k2 hF hM hU hD
        rename World => wx
        obtain ⟨k, fw, hk, rfl, rfl, hF, hM, hU, hD⟩ := hrel
        by_cases hkl : k < m
        · have hki : (k : Int) < (m : Int) := by omega
          obtain ⟨b2, off2, rfl, hc2⟩ := (HRN.out _ hU.out).cells (by omega)
          have k2 := hc2 k hkl
          have hkR : k < R.length := by rw [HM.out]; exact hkl
          rw [castZ_get hkR] at k2
          obtain ⟨x, hx⟩ : ∃ x, R.getD k 0 = x := ⟨_, rfl⟩
          have htk : X ++ R.take (k + 1) = (X ++ R.take k) ++ [x] := by
            rw [List.take_succ_eq_append_getElem hkR, List.append_assoc, ← hx]
            simp [List.getD, hkR]
          have hxn : x < n := by
            rw [← hx]
            refine HRL.out _ ?_
            simp only [List.getD, List.getElem?_eq_getElem hkR, Option.getD_some]
            exact List.getElem_mem hkR
          rw [hx] at k2
          have hXk : ∀ y ∈ X ++ R.take k, y < n := fun y hy => by
            rcases List.mem_append.1 hy with h1 | h1
            · exact HXL.out y h1
            · exact HRL.out y (List.mem_of_mem_take h1)
          obtain ⟨Y, hY⟩ : ∃ Y, X ++ R.take k = Y := ⟨_, rfl⟩
          have hYs := newL_snoc S Y x
          rw [hY] at hF hM htk hXk
          have hnl : (newL S Y).length ≤ n := nodup_le (newL_spec S Y).1 (newL_lt hXk)
          have hxi : (x : Int) < (n : Int) := by omega
          have hxS : x < S.length := by rw [HSL.out]; exact hxn
          have hxM : x < (markL S (newL S Y)).length := by rw [mark_len]; exact hxS
          have k3 := hM.out.c hxM
          rw [mark_get hxS] at k3
          have k4 := hM.out.f x
          have hms := mark_set (S := S) (F := newL S Y) (x := x)
          obtain ⟨y, hy⟩ : ∃ y, (S.getD x false || (newL S Y).contains x) = y := ⟨_, rfl⟩
          rw [hy] at k3 hYs
          clear hc2 hx hY hXk hy
          cases y with
          | true =>
            rw [if_pos rfl] at hYs
            rw [← hYs, ← htk] at hF hM
            clear htk hYs hms k4
            go_wp2
            go_roundw
            case rel => exact ⟨k + 1, _, by omega, by go_num, rfl, hF, hM, hU, hD⟩
            case measure => simp [intOf] <;> omega
          | false =>
            rw [if_neg (by decide)] at hYs
            have hb1 := hM.out.set (j := x) true
            rw [hms] at hb1
            have ho := only_set1 wx sb x (.bool true)
            have hsB2 : sb < B + 1 := by omega
            have hF1 : OZ (wx.setCell ⟨sb, x, none⟩ (.bool true)) (B + 1) fw (castZ (newL S Y)) := hF.out.far fun k hk => ho.block k (by have := (hF.out.blk k hk).1; omega)
            have hU1 : Upto (B + 1) sb V (wx.setCell ⟨sb, x, none⟩ (.bool true)) := hU.out.trans (Upto.only ho)
            have hD1 : B + 1 ≤ (wx.setCell ⟨sb, x, none⟩ (.bool true)).heap.size := by rw [ho.size]; exact hD
            have HT := Lib.hid (show newL S (X ++ R.take (k + 1)) = newL S Y ++ [x] by rw [htk, hYs])
            have HB1 := Lib.hid hb1
            have HU1 := Lib.hid hU1
            have hlc2 : (castZ (newL S Y)).length ≤ 1000000 := by rw [castZ_len]; omega
            clear htk hYs hms ho hF hM hU hD hb1 hU1 hxM
            go_upto_region 10 with fail
            clear k2 k3 k4
            generalize wx.setCell ⟨sb, x, none⟩ (.bool true) = W2 at *
            go_wp2_with (at_builtin; refine wpList_append_z _ rfl (.tmp 36) (.tmp 38) rfl (B + 1) _ (castZ (newL S Y)) x rfl rfl hF1 hD1 hlc2 ?_)
            intro pv' w2 hp2' hB2
            have RF := Lib.hid hp2'
            rw [← castZ_snoc, ← HT.out] at RF
            have RM := Lib.hid (HB1.out.below hB2 (by omega))
            rw [← HT.out] at RM
            have RU := Lib.hid (HU1.out.trans (Upto.below hB2 (Nat.le_refl _)))
            have RD := Nat.le_trans hD1 hB2.size
            clear hp2' hB2 hF1 HB1 HU1 hD1
            go_wp2
            go_roundw
            case rel => exact ⟨k + 1, _, by omega, by go_num, rfl, RF, RM, RU, RD⟩
            case measure => simp [intOf] <;> omega
        · obtain rfl : m = k := by omega
          have hmm : ¬ (m : Int) < (m : Int) := by omega
          rw [List.take_of_length_le (by rw [HM.out]; exact Nat.le_refl _), ← HFT.out] at hF hM
          go_wp2
          go_roundw
          case rel => exact ⟨i + 1, _, by omega, by go_num, rfl, hF, hM, hU, hD⟩
          case measure => simp [intOf] <;> omega
    · obtain rfl : ln = i := by omega
      have hnn : ¬ (ln : Int) < (ln : Int) := by omega
      obtain ⟨e1, e2⟩ := sort_nxt (n := n) (a := a) (S := S) (L := L)
      rw [List.take_of_length_le (by rw [HLN.out]; exact Nat.le_refl _)] at hF hM
      have hnl : (newL S (L.flatMap (rowN n a))).length ≤ n := nodup_le (newL_spec S _).1 (newL_lt (scan_lt n a L))
      have CS := Lib.hid (sort_own (B + 1) fw _ wr hF.out (by rw [castZ_len]; omega) hD)
      rw [e1] at CS
      rw [e2] at hM
      clear e1 e2 hF
      go_wp2_with fail
      refine CS.out.mono ?_
      rintro e w2 ⟨rfl, hoz, hB2⟩
      have RO := Lib.hid (hoz.mono (C := B) (by omega))
      have RM := Lib.hid (hM.out.below hB2 (by omega))
      have RU := Lib.hid (HU.out _ (hU.out.trans (Upto.below hB2 (Nat.le_refl _))))
      clear hoz hB2 CS hM hU
      go_wp2
      go_ret
      exact ⟨_, rfl, RO.out, RM.out, RU.out⟩
end Go.Proofs.Ytapcecjbmcoliaa
