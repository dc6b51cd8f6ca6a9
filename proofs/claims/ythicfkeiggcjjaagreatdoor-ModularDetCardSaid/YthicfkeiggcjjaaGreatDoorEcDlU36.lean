import Derived.Test.YthicfkeiggcjjaaGreatDoorEcDlU34
import Derived.Test.YthicfkeiggcjjaaGreatDoorEcDlU35
namespace Go.Proofs.YthicfkeiggcjjaaGreatDoor
open Go Go.RowKit

def colL (B : List (List Int)) (n j : Nat) : List Int := (List.range n).map fun k => ent B k j
theorem colL_get {B : List (List Int)} {n j k : Nat} (h : k < n) : (colL B n j).getD k 0 = ent B k j := getD_range h
def tmRow (p : Int) (A B : List (List Int)) (n i : Nat) : List Int := (List.range n).map fun j => prodS p (A.getD i []) (colL B n j) n
def tmM (p : Int) (A B : List (List Int)) (n : Nat) : List (List Int) := (List.range n).map (tmRow p A B n)
theorem tm_len (p : Int) (A B : List (List Int)) (n : Nat) : (tmM p A B n).length = n := by simp [tmM]
theorem tm_row {p : Int} {A B : List (List Int)} {n i : Nat} (h : i < n) : (tmM p A B n).getD i [] = tmRow p A B n i := by simp [tmM, List.getD, h]
theorem tmRow_len (p : Int) (A B : List (List Int)) (n i : Nat) : (tmRow p A B n i).length = n := by simp [tmRow]
theorem tmRow_take {p : Int} {A B : List (List Int)} {n i j : Nat} (h : j < n) : (tmRow p A B n i).take (j + 1) = (tmRow p A B n i).take j ++ [prodS p (A.getD i []) (colL B n j) n] := by
  rw [List.take_succ_eq_append_getElem (by rw [tmRow_len]; exact h)]
  simp [tmRow]
theorem tmM_take {p : Int} {A B : List (List Int)} {n i : Nat} (h : i < n) : (tmM p A B n).take (i + 1) = (tmM p A B n).take i ++ [tmRow p A B n i] := by
  rw [List.take_succ_eq_append_getElem (by rw [tm_len]; exact h)]
  simp [tmM]
theorem tm_cg {p : Int} {A B : List (List Int)} {n i j : Nat} (hi : i < n) (hj : j < n) : Cg p (ent (tmM p A B n) i j) (dotN n (A.getD i []) fun k => ent B k j) := by
  unfold ent
  rw [tm_row hi]
  unfold tmRow
  rw [getD_range hj, prodS_sum]
  refine (Cg.mod p _).trans ?_
  unfold dotN
  refine sumN_dvd n fun x hx => ?_
  rw [colL_get hx]
  exact (Cg.mod p _).mul (Cg.mod p _)
/-- two rows exchanged in the list -/
theorem RS.exch {w : World} {B b n cap i k : Nat} {rs : List Value} {M : List (List Int)} (h : RS w B (.slice (some ⟨b, 0, none⟩) n cap) rs M) (hi : i < rs.length) (hk : k < rs.length) (hl : rs.length = n) :
    Nss ((w.setCell ⟨b, i, none⟩ (rs.getD k nilV)).setCell ⟨b, k, none⟩ (rs.getD i nilV)) (some ⟨b, 0, none⟩) n cap (swapL M i k []) := by
  obtain ⟨g, hg, hcell⟩ := h.cellE
  cases hg
  have o1 := only_set1 w b i (rs.getD k nilV)
  have o2 := only_set1 (w.setCell ⟨b, i, none⟩ (rs.getD k nilV)) b k (rs.getD i nilV)
  have hnb : ∀ j, j < rs.length → (rs.getD j nilV).ownBlock ≠ some b := fun j hj e => h.nb j b hj e rfl
  have hml := h.len
  obtain ⟨h1, h2⟩ := h.own
  rcases h2 with ⟨e, _⟩ | ⟨g, c2, cur, e, hbb, hgg, hnn, hm2, hs, ht⟩
  · cases e
  · cases e
    have hv : VBlk ((w.setCell ⟨b, i, none⟩ (rs.getD k nilV)).setCell ⟨b, k, none⟩ (rs.getD i nilV)) b ((cur.setIfInBounds i (rs.getD k nilV)).setIfInBounds k (rs.getD i nilV)) 23 := (VBlk.set (show VBlk w b cur 23 from hgg) i _).set k _
    have hcs : ∀ j, j < rs.length → cur[j]? = some (rs.getD j nilV) := fun j hj => by
      have := hcell j hj
      rw [cell_of_row w b j _ _ _ hgg] at this
      exact this
    refine ⟨by rw [swap_len, hml, hl], hnn, fun h0 => ⟨b, 0, rfl, fun t ht2 => ?_⟩⟩
    have htl : t < rs.length := by omega
    have hsw := swI_lt (i := i) (j := k) (k := t) (n := rs.length) hi hk htl
    obtain ⟨ri, ci, e, hns⟩ := (h.row _ hsw).nsV
    rw [swap_get [] (by omega) (by omega)]
    refine ⟨ri, ci, ?_, ?_⟩
    · rw [Nat.zero_add, hv.c t, ← e]
      have hsz : rs.length ≤ cur.size := by
        rcases Nat.lt_or_ge (rs.length - 1) cur.size with h5 | h5
        · omega
        · have := hcs (rs.length - 1) (by omega)
          rw [Array.getElem?_eq_none h5] at this
          cases this
      unfold swI
      by_cases htk : t = k
      · subst htk
        rw [if_pos rfl, Array.getElem?_setIfInBounds_self_of_lt (by simp; omega)]
      · rw [if_neg htk, Array.getElem?_setIfInBounds_ne (Ne.symm htk)]
        by_cases hti : t = i
        · subst hti
          rw [if_pos rfl, Array.getElem?_setIfInBounds_self_of_lt (by omega)]
        · rw [if_neg hti, Array.getElem?_setIfInBounds_ne (Ne.symm hti)]
          exact hcs t htl
    · have hfar := (h.row _ hsw).far (w' := (w.setCell ⟨b, i, none⟩ (rs.getD k nilV)).setCell ⟨b, k, none⟩ (rs.getD i nilV)) (fun x hx => by
        have hxb : x ≠ b := fun e => hnb _ hsw (e ▸ hx)
        rw [o2.block x hxb, o1.block x hxb])
      rw [e] at hfar
      exact hfar.nsE.2

set_option maxRecDepth 100000 in
set_option maxHeartbeats 16000000 in
theorem mtimes_any (ao bo : Option Addr) (n ca cb : Nat) (A B : List (List Int)) (p : Int) (w : World) (hA : Nss w ao n ca A) (hB : Nss w bo n cb B) (hrowA : ∀ i, i < n → (A.getD i []).length = n) (hrowB : ∀ i, i < n → (B.getD i []).length = n) (hn : n ≤ 100) (hp : 2 ≤ p) (hp2 : p ≤ 2147483647) :
    Calls Tryz.prog 25 #[.slice ao n ca, .slice bo n cb, .int .i64 p] w fun e w' => ∃ vo vc, e = .returned (.slice vo n vc) ∧ Nss w' vo n vc (tmM p A B n) ∧ Ext w w' := by
  have HA := Lib.hid hA
  have HBB := Lib.hid hB
  have HRA := Lib.hid hrowA
  have HRBB := Lib.hid hrowB
  have CMOD := Lib.hid (fun (a : Int) (wx : World) => refMod_any a p wx (by omega) (by omega))
  obtain ⟨C, hCe⟩ : ∃ C, w.heap.size = C := ⟨_, rfl⟩
  have HEX := Lib.hid (show ∀ wx, Below C w wx → Ext w wx from fun wx h => by rw [← hCe] at h; exact h)
  have hC0 : C ≤ w.heap.size := by omega
  have hpne : ¬ p = 0 := by omega
  have hpb : (p == 0) = false := beq_eq_false_iff_ne.2 hpne
  clear hA hB hrowA hrowB hCe
  go_enter Tryz.func25, Tryz.ntmps25
  go_wp2
  go_loopw [7, 8, 9, 10, 11, 12] (fun av iv _ _ _ _ wr => ∃ (i : Nat) (rs : List Value), i ≤ n ∧ iv = .int .i64 (i : Int) ∧ Hid (RS wr C av rs ((tmM p A B n).take i)) ∧ Hid (Below C w wr) ∧ C ≤ wr.heap.size)
    (fun _ iv _ _ _ _ _ => n - (intOf iv).toNat)
  case atStart => exact ⟨0, [], Nat.zero_le _, rfl, Lib.hid (RS.nil _ C), Lib.hid (Below.refl C w), hC0⟩
  case round =>
    obtain ⟨i, rs, hi, rfl, hRS, hE, hCs⟩ := hrel
    by_cases hlt : i < n
    · have hii : (i : Int) < (n : Int) := by omega
      obtain ⟨D, hD⟩ : ∃ D, wr.heap.size = D := ⟨_, rfl⟩
      have HXD := Lib.hid (show ∀ wx, Below D wr wx → Ext wr wx from fun wx h => by rw [← hD] at h; exact h)
      have HD := Lib.hid hD
      have hD0 : D ≤ wr.heap.size := by omega
      have hCD : C ≤ D := by omega
      have HROW := Lib.hid (show (tmM p A B n).take (i + 1) = (tmM p A B n).take i ++ [tmRow p A B n i] from tmM_take hlt)
      obtain ⟨ba, oa, rfl, hc1⟩ := (HA.out.below (HEX.out _ hE.out)).rows (by omega)
      obtain ⟨bbb, obb, rfl, hc2⟩ := (HBB.out.below (HEX.out _ hE.out)).rows (by omega)
      obtain ⟨ri, ci, h1, h2⟩ := hc1 i hlt
      obtain ⟨la, hla⟩ : ∃ la, A.getD i [] = la := ⟨_, rfl⟩
      have hrla := HRA.out i hlt
      rw [hla] at h1 h2 hrla
      rw [hrla] at h1 h2
      have HAC := Lib.hid h1
      have HAN := Lib.hid h2
      have HLA := Lib.hid hla
      have HBC := Lib.hid hc2
      clear hD hc1 hc2 h1 h2 hla hrla
      rename World => wo
      go_wp2
      go_loopw [9, 10, 11, 12] (fun rv jv _ _ wx => ∃ j : Nat, j ≤ n ∧ jv = .int .i64 (j : Int) ∧ OZ wx D rv ((tmRow p A B n i).take j) ∧ Hid (Below D wo wx) ∧ D ≤ wx.heap.size)
        (fun _ jv _ _ _ => n - (intOf jv).toNat)
      case atStart => exact ⟨0, Nat.zero_le _, rfl, OZ.nil _ D, Lib.hid (Below.refl D wo), hD0⟩
      case round =>
        rename World => wx
        obtain ⟨j, hj, rfl, hown, HBX, hDx⟩ := hrel
        by_cases hjl : j < n
        · have hji : (j : Int) < (n : Int) := by omega
          have hlp : ((tmRow p A B n i).take j).length ≤ 1000000 := by rw [List.length_take, tmRow_len]; omega
          obtain ⟨cl, hcl⟩ : ∃ cl, colL B n j = cl := ⟨_, rfl⟩
          have HNP := Lib.hid (show (tmRow p A B n i).take (j + 1) = (tmRow p A B n i).take j ++ [prodS p la cl n] by
            rw [tmRow_take hjl, HLA.out, hcl])
          have HCL := Lib.hid (show ∀ k, k < n → cl.getD k 0 = ent B k j from fun k hk => by rw [← hcl]; exact colL_get hk)
          have HOWN := Lib.hid hown
          clear hcl hown
          go_wp2
          go_loopw [11, 12] (fun sv kv wy => ∃ (k : Nat) (s : Int), k ≤ n ∧ kv = .int .i64 (k : Int) ∧ sv = .int .i64 s ∧ Hid (s = prodS p la cl k) ∧ Hid (0 ≤ s ∧ s < p) ∧ Hid (Ext wx wy) ∧ Hid (Below D wo wy) ∧ D ≤ wy.heap.size)
            (fun _ kv _ => n - (intOf kv).toNat)
          case atStart => exact ⟨0, 0, Nat.zero_le _, rfl, rfl, Lib.hid rfl, Lib.hid ⟨Int.le_refl _, by omega⟩, Lib.hid (Ext.refl _), HBX, hDx⟩
          case round =>
            rename World => wy
            obtain ⟨k, s, hk, rfl, rfl, HS, HSR, HEW, HBW, hDy⟩ := hrel
            by_cases hkl : k < n
            · have hki : (k : Int) < (n : Int) := by omega
              have hxo := HXD.out _ HBW.out
              have k0 := (hxo.cell (lt_of_cell HAC.out)).trans HAC.out
              obtain ⟨b1, o1, rfl, hcell1⟩ := (HAN.out.below hxo).cells (by omega)
              have k1 := hcell1 k hkl
              obtain ⟨rk, ck, hb1, hb2⟩ := HBC.out k hkl
              rw [HRBB.out k hkl] at hb1 hb2
              have k3 := (hxo.cell (lt_of_cell hb1)).trans hb1
              obtain ⟨b2, o2, rfl, hcell2⟩ := (hb2.below hxo).cells (by omega)
              have k2 := hcell2 j hjl
              obtain ⟨x, hx⟩ : ∃ x, la.getD k 0 = x := ⟨_, rfl⟩
              obtain ⟨y, hy⟩ : ∃ y, (B.getD k []).getD j 0 = y := ⟨_, rfl⟩
              rw [hx] at k1
              rw [hy] at k2
              obtain ⟨x1, hx1⟩ : ∃ x1, x % p = x1 := ⟨_, rfl⟩
              obtain ⟨y1, hy1⟩ : ∃ y1, y % p = y1 := ⟨_, rfl⟩
              have CX := Lib.hid (CMOD.out x)
              have CY := Lib.hid (CMOD.out y)
              rw [hx1] at CX
              rw [hy1] at CY
              have bx : 0 ≤ x1 ∧ x1 < p := by rw [← hx1]; exact ⟨Int.emod_nonneg _ (by omega), Int.emod_lt_of_pos _ (by omega)⟩
              have by' : 0 ≤ y1 ∧ y1 < p := by rw [← hy1]; exact ⟨Int.emod_nonneg _ (by omega), Int.emod_lt_of_pos _ (by omega)⟩
              obtain ⟨s1, s2, s3, s4, s5⟩ := sum_step hp hp2 HSR.out.1 HSR.out.2 bx.1 bx.2 by'.1 by'.2
              obtain ⟨t1, ht1⟩ : ∃ t1, x1 * y1 = t1 := ⟨_, rfl⟩
              have s1b : IntKind.i64.wrap (x1 * y1) = t1 := by rw [← ht1]; exact s1
              rw [ht1] at s1 s2 s3 s4 s5
              obtain ⟨t2, ht2⟩ : ∃ t2, s + t1 = t2 := ⟨_, rfl⟩
              have s2b : IntKind.i64.wrap (s + t1) = t2 := by rw [← ht2]; exact s2
              rw [ht2] at s2 s3 s4 s5
              obtain ⟨z, hz⟩ : ∃ z, t2 % p = z := ⟨_, rfl⟩
              rw [hz] at s3 s4 s5
              have s6 : IntKind.i64.wrap z = z := IntWalk.i64_in _ (by omega)
              have s7 : IntKind.i64.wrap (t2.tmod p) = z := by rw [s3]; exact s6
              have HS2 := Lib.hid (show z = prodS p la cl (k + 1) by
                show z = (prodS p la cl k + la.getD k 0 % p * (cl.getD k 0 % p)) % p
                rw [← HS.out, hx, HCL.out k hkl]
                show z = (s + x % p * ((B.getD k []).getD j 0 % p)) % p
                rw [hy, hx1, hy1, ht1, ht2, hz])
              have HSR2 := Lib.hid (And.intro s4 s5)
              have HEW2 := Lib.hid (show Ext wx wy.drew from HEW.out.drew)
              have HBW2 := Lib.hid (show Below D wo wy.drew from HBW.out.drew)
              have hDy2 : D ≤ wy.drew.heap.size := hDy
              clear hcell1 hcell2 hx hy hx1 hy1 bx by' ht1 ht2 hz s4 s5 hb1 hb2 hxo
              go_upto_region 13 with fail
              refine wp_region_still_lit (by kernel_rfl) (by kernel_rfl) ?_
              repeat still_step
              still_call ((CX.out _).mono (fun _ _ h => ⟨h.1, h.2.symm⟩))
              repeat still_step
              still_call ((CY.out _).mono (fun _ _ h => ⟨h.1, h.2.symm⟩))
              repeat still_step
              refine wpStill_nil ?_
              go_wp2
              go_roundw
              case rel => first | exact ⟨k + 1, z, by omega, by go_num, rfl, HS2, HSR2, HEW2, HBW2, hDy2⟩ | exact ⟨k + 1, z, by omega, by go_num, rfl, HS2, HSR2, HEW, HBW, hDy⟩
              case measure => simp [intOf]; omega
            · obtain rfl : n = k := by omega
              have hown := HOWN.out.below HEW.out
              obtain ⟨t, ht⟩ : ∃ t, prodS p la cl n = t := ⟨_, rfl⟩
              have hst : s = t := HS.out.trans ht
              rw [ht] at HNP
              subst hst
              clear ht
              go_wp2_with (at_builtin; refine wpList_append_z _ rfl (.tmp 54) (.tmp 56) rfl D _ ((tmRow p A B n i).take j) s rfl rfl hown hDy hlp ?_)
              intro pv' w2 hp2' hB2
              have hsz := hB2.size
              rw [← HNP.out] at hp2'
              have Rr := Lib.hid (And.intro hp2' (Lib.hid (HBW.out.trans hB2)))
              clear hp2' hown hB2
              go_wp2
              go_roundw
              case rel => exact ⟨j + 1, by omega, by go_num, Rr.out.1, Rr.out.2, by omega⟩
              case measure => simp [intOf] <;> omega
        · obtain rfl : n = j := by omega
          rw [List.take_of_length_le (by rw [tmRow_len]; exact Nat.le_refl _)] at hown
          obtain ⟨yo, yc, rfl⟩ := hown.slE
          have hrs1 := hRS.out.below (HXD.out _ HBX.out)
          have hC1 : C ≤ wx.heap.size := by omega
          have HB1 := Lib.hid (hE.out.trans (HBX.out.mono hCD))
          have hfar := hRS.out.lt
          rw [HD.out] at hfar
          have hl6 : rs.length ≤ 1000000 := by
            have := hRS.out.len
            rw [List.length_take, tm_len] at this
            omega
          clear HBX hE hRS
          go_wp2_with (at_builtin; refine wpList_append_rs _ rfl (.tmp 58) (.tmp 60) rfl C D _ rs ((tmM p A B n).take i) _ (tmRow p A B n i) rfl rfl hrs1 hown hCD hfar hC1 hl6 ?_)
          intro pv' w2 hp2' hB2
          have hsz := hB2.size
          rw [← HROW.out] at hp2'
          have Rr := Lib.hid (And.intro (Lib.hid hp2') (Lib.hid (HB1.out.trans hB2)))
          clear hown hp2' hrs1 hfar hB2 HB1
          go_wp2
          go_roundw
          case rel => exact ⟨i + 1, _, by omega, by go_num, Rr.out.1, Rr.out.2, by omega⟩
          case measure => simp [intOf] <;> omega
    · obtain rfl : n = i := by omega
      have hRS2 := hRS.out
      rw [List.take_of_length_le (by rw [tm_len]; exact Nat.le_refl _)] at hRS2
      obtain ⟨vo, vc, rfl, hns⟩ := hRS2.nss
      rw [tm_len] at hns ⊢
      have HNS := Lib.hid hns
      have HEW := Lib.hid (HEX.out _ hE.out)
      clear hRS hRS2 hns hE
      go_wp2
      go_ret
      exact ⟨vo, vc, rfl, HNS.out, HEW.out⟩
end Go.Proofs.YthicfkeiggcjjaaGreatDoor
