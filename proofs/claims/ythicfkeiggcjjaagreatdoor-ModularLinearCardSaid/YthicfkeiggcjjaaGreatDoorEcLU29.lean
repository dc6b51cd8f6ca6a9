import Derived.Test.YthicfkeiggcjjaaGreatDoorEcLU28
import Derived.Test.YthicfkeiggcjjaaGreatDoorEcLU27
import Derived.Test.YthicfkeiggcjjaaGreatDoorEcLU22
import Derived.Deep.CutRange
import Derived.StillTailTactics
namespace Go.Proofs.YthicfkeiggcjjaaGreatDoor
open Go Go.RowKit

set_option maxRecDepth 100000 in
theorem refCols_any (ao : Option Addr) (n cap : Nat) (M : List (List Int)) (w : World) (h : Nss w ao n cap M) :
    Calls Tryz.prog 42 #[.slice ao n cap] w fun e w' => e = .returned (.int .i64 (widthM M : Nat)) ∧ w = w' := by
  by_cases h0 : n = 0
  · have hm : widthM M = 0 := by
      have := h.len
      rw [h0] at this
      rw [List.eq_nil_of_length_eq_zero this]; rfl
    rw [hm]
    subst h0
    clear hm h
    go_enter Tryz.func42, Tryz.ntmps42
    go_wp2
    go_ret
    exact ⟨rfl, rfl⟩
  · obtain ⟨b, off, rfl, hc⟩ := h.rows (by omega)
    obtain ⟨ri, ci, h1, h2⟩ := hc 0 (by omega)
    obtain ⟨k, hk⟩ : ∃ k, (M.getD 0 []).length = k := ⟨_, rfl⟩
    have hw : widthM M = k := hk
    rw [hw]
    rw [hk, Nat.add_zero] at h1
    have h0i : ((n : Int) == 0) = false := by apply beq_eq_false_iff_ne.2; omega
    have hpos : (0 : Int) < (n : Int) := by omega
    clear h2 hc h hw hk
    go_enter Tryz.func42, Tryz.ntmps42
    go_wp2
    go_ret
    exact ⟨rfl, rfl⟩

set_option maxRecDepth 100000 in
set_option maxHeartbeats 16000000 in
theorem refEch_any (ao : Option Addr) (n cap c : Nat) (M : List (List Int)) (p : Int) (SF : Ech) (w : World) (hm : Nss w ao n cap M) (hrow : ∀ i, i < n → (M.getD i []).length = c) (hw : widthM M = c) (h0 : 0 < n) (hc0 : 0 < c) (hn : n ≤ 200) (hc : c ≤ 201) (hp : 2 ≤ p) (hp2 : p ≤ 2147483647) (hSF : reduceR p c 0 ⟨resM p M, [], 1⟩ = SF) :
    Calls Tryz.prog 41 #[.slice ao n cap, .int .i64 p] w fun r w' => ∃ b cn rs qo qk qc, r = .returned (.tuple #[.slice (some ⟨b, 0, none⟩) n cn, .slice qo qk qc, .int .i64 SF.f]) ∧ Mat w' b rs c SF.M ∧ rs.length = n ∧ OZ w' w.heap.size (.slice qo qk qc) SF.L ∧ Ext w w' := by
  have HM := Lib.hid hm
  have HML := Lib.hid hm.len
  have HROW := Lib.hid hrow
  have HSF := Lib.hid hSF
  have CW := Lib.hid (fun wx (h : Ext w wx) => refCols_any ao n cap M wx (hm.below h))
  rw [hw] at CW
  obtain ⟨C, hCe⟩ : ∃ C, w.heap.size = C := ⟨_, rfl⟩
  have HEX := Lib.hid (show ∀ wx, Below C w wx → Ext w wx from fun wx h => by rw [← hCe] at h; exact h)
  have HCE := Lib.hid hCe
  have hC0 : C ≤ w.heap.size := by omega
  have HOK0 := Lib.hid (res_ok (p := p) (n := n) (c := c) hp hm.len hrow)
  have CMOD := Lib.hid (fun (a : Int) (wx : World) => refMod_any a p wx (by omega) (by omega))
  have HRL := Lib.hid (show (resM p M).length = n by unfold resM; rw [List.length_map, hm.len])
  clear hm hrow hSF hw hCe
  go_enter Tryz.func41, Tryz.ntmps41
  go_wp2
  go_loopw [7, 8, 9, 10] (fun av iv _ _ wr => ∃ (i : Nat) (rs : List Value), i ≤ n ∧ iv = .int .i64 (i : Int) ∧ Hid (RS wr C av rs ((resM p M).take i)) ∧ Hid (Below C w wr) ∧ C ≤ wr.heap.size)
    (fun _ iv _ _ _ => n - (intOf iv).toNat)
  case atStart => exact ⟨0, [], Nat.zero_le _, rfl, Lib.hid (RS.nil _ C), Lib.hid (Below.refl C w), hC0⟩
  case round =>
    obtain ⟨i, rs, hi, rfl, hRS, hE, hCs⟩ := hrel
    by_cases hlt : i < n
    · have hii : (i : Int) < (n : Int) := by omega
      have HNI := Lib.hid (HM.out.below (HEX.out _ hE.out))
      obtain ⟨a, off, rfl, hc1⟩ := HNI.out.rows (by omega)
      obtain ⟨ri, ci, h1, h2⟩ := hc1 i hlt
      have hrl := HROW.out i hlt
      obtain ⟨l, hl⟩ : ∃ l, M.getD i [] = l := ⟨_, rfl⟩
      rw [hl] at h1 h2 hrl
      rw [hrl] at h1 h2
      have HN := Lib.hid h2
      have HA := Lib.hid h1
      have HLL := Lib.hid hrl
      have HRT := Lib.hid (show (resM p M).take (i + 1) = (resM p M).take i ++ [resRow p l] by rw [← hl]; exact resM_take (by rw [HML.out]; exact hlt))
      obtain ⟨D, hD⟩ : ∃ D, wr.heap.size = D := ⟨_, rfl⟩
      have HXD := Lib.hid (show ∀ wx, Below D wr wx → Ext wr wx from fun wx h => by rw [← hD] at h; exact h)
      have HD := Lib.hid hD
      have hD0 : D ≤ wr.heap.size := by omega
      clear hc1 h2 hl hrl hD
      go_wp2
      go_loopw [9, 10] (fun rv xv wx => ∃ x : Nat, x ≤ c ∧ xv = .int .i64 (x : Int) ∧ OZ wx D rv ((resRow p l).take x) ∧ Below D wr wx ∧ D ≤ wx.heap.size)
        (fun _ xv _ => c - (intOf xv).toNat)
      case atStart => exact ⟨0, Nat.zero_le _, rfl, OZ.nil _ D, Below.refl D wr, hD0⟩
      case round =>
        rename World => wx
        obtain ⟨x, hx, rfl, hown, hbx, hDx⟩ := hrel
        have hrlen : (resRow p l).length = c := by unfold resRow; rw [List.length_map, HLL.out]
        have k1 := ((HXD.out _ hbx).cell (lt_of_cell HA.out)).trans HA.out
        by_cases hxl : x < c
        · have hxi : (x : Int) < (c : Int) := by omega
          obtain ⟨b2, o2, rfl, hcell⟩ := (HN.out.below (HXD.out _ hbx)).cells (by omega)
          have k2 := hcell x hxl
          obtain ⟨v, hv⟩ : ∃ v, l.getD x 0 = v := ⟨_, rfl⟩
          rw [hv] at k2
          obtain ⟨y, hy⟩ : ∃ y, v % p = y := ⟨_, rfl⟩
          have CM := Lib.hid (CMOD.out v)
          rw [hy] at CM
          have hnp : (resRow p l).take (x + 1) = (resRow p l).take x ++ [y] := by
            rw [List.take_succ_eq_append_getElem (by rw [hrlen]; exact hxl), ← hy, ← hv]
            simp [resRow, List.getD, show x < l.length by rw [HLL.out]; exact hxl]
          have HNP := Lib.hid hnp
          have hlp : ((resRow p l).take x).length ≤ 1000000 := by rw [List.length_take]; omega
          have HBX := Lib.hid hbx
          clear hcell hv hy hnp hbx hrlen
          go_wp2_with fail
          refine (CM.out _).mono ?_
          rintro e w1 ⟨rfl, rfl⟩
          clear CM
          go_wp2_with (at_builtin; refine wpList_append_z _ rfl (.tmp 36) (.tmp 46) rfl D _ ((resRow p l).take x) y rfl rfl hown hDx hlp ?_)
          intro pv' w2 hp2 hB2
          have hsz := hB2.size
          rw [← HNP.out] at hp2
          have Rr := Lib.hid (And.intro hp2 (HBX.out.trans hB2))
          clear hown hp2 k1 k2 hB2
          go_wp2
          go_roundw
          case rel => exact ⟨x + 1, by omega, by go_num, Rr.out.1, Rr.out.2, by omega⟩
          case measure => simp [intOf] <;> omega
        · obtain rfl : c = x := by omega
          rw [List.take_of_length_le (by rw [hrlen]; exact Nat.le_refl _)] at hown
          obtain ⟨yo, yc, rfl⟩ := hown.slE
          have hrs1 := hRS.out.below (HXD.out _ hbx)
          have hCD : C ≤ D := by rw [← HD.out]; exact hCs
          have hC1 : C ≤ wx.heap.size := by omega
          have HB1 := Lib.hid (hE.out.trans (hbx.mono (by rw [← HD.out]; exact hCs)))
          have hfar := hRS.out.lt
          rw [HD.out] at hfar
          have hl6 : rs.length ≤ 1000000 := by
            have := hRS.out.len
            rw [List.length_take, HRL.out] at this
            omega
          clear hbx hrlen hE hRS
          go_wp2_with (at_builtin; refine wpList_append_rs _ rfl (.tmp 48) (.tmp 50) rfl C D _ rs ((resM p M).take i) _ (resRow p l) rfl rfl hrs1 hown hCD hfar hC1 hl6 ?_)
          intro pv' w2 hp2 hB2
          have hsz := hB2.size
          rw [← HRT.out] at hp2
          have Rr := Lib.hid (And.intro (Lib.hid hp2) (Lib.hid (HB1.out.trans hB2)))
          clear hown hp2 hrs1 hfar hB2 HB1 k1
          go_wp2
          go_roundw
          case rel => exact ⟨i + 1, _, by omega, by go_num, Rr.out.1, Rr.out.2, by omega⟩
          case measure => simp [intOf] <;> omega
    · obtain rfl : n = i := by omega
      have hRS2 := hRS.out
      rw [List.take_of_length_le (by rw [HRL.out]; exact Nat.le_refl _)] at hRS2
      have hrn : rs.length = n := by have := hRS2.len; rw [HRL.out] at this; exact this.symm
      obtain ⟨b, cn, rp, rfl, hcn, hMat, hrpl, hCb, hrp⟩ := hRS2.mat (by omega) hc0 (fun i hi => by
        have := HOK0.out.row i (by omega)
        exact this)
      rw [hrn] at hcn hrpl ⊢
      obtain ⟨N, hN⟩ : ∃ N, wr.heap.size = N := ⟨_, rfl⟩
      have hbN := hMat.rows.lt
      have HRB := Lib.hid (show RBk C N n rp from ⟨hrpl, fun i hi => (hrp i (by omega)).2, fun i hi => by rw [← hN]; exact (hMat.row i (by omega)).1.lt⟩)
      have HEW := Lib.hid (HEX.out _ hE.out)
      have HMAT := Lib.hid hMat
      have h1p : (1 : Int).tmod p = 1 := by rw [Int.tmod_eq_emod_of_nonneg (by omega)]; exact Int.emod_eq_of_lt (by omega) (by omega)
      have h1w : IntKind.i64.wrap ((1 : Int).tmod p) = 1 := by rw [h1p]; exact IntWalk.i64_in _ (by omega)
      have hpne : ¬ p = 0 := by omega
      have hpb : (p == 0) = false := beq_eq_false_iff_ne.2 hpne
      have HCN := Lib.hid (show C ≤ N by omega)
      have HCb := Lib.hid hCb
      have hbN2 : b < N := by omega
      have HNW := Lib.hid (show N ≤ wr.heap.size by omega)
      have HOZ0 := Lib.hid (OZ.nil wr N)
      clear hRS hRS2 hrn hMat hrp hrpl hE hcn hCb hbN hN
      go_wp2
      clear h1p h1w
      go_loopw [11, 12, 13, 14, 15, 16, 17, 18, 19, 20] (fun dv qv jv _ _ _ _ _ _ _ wz => ∃ (j k : Nat) (d : Int) (S : Ech) (rs : List (Nat × Nat)) (qo : Option Addr) (qc : Nat), j ≤ c ∧ jv = .int .i64 (j : Int) ∧ dv = .int .i64 d ∧ qv = .slice qo k qc ∧ Hid (S.L.length = k ∧ S.f = d) ∧ Hid (Mat wz b rs c S.M) ∧ Hid (OZ wz N (.slice qo k qc) S.L) ∧ Hid (RBk C N n rs) ∧ Hid (EOk p n c S) ∧ Hid (reduceR p (c - j) j S = SF) ∧ Hid (N ≤ wz.heap.size) ∧ Hid (Ext w wz))
        (fun _ _ jv _ _ _ _ _ _ _ _ => c - (intOf jv).toNat)
      case atStart => exact ⟨0, 0, 1, ⟨resM p M, [], 1⟩, rp, none, 0, Nat.zero_le _, rfl, rfl, rfl, Lib.hid ⟨rfl, rfl⟩, HMAT, HOZ0, HRB, HOK0, HSF, HNW, HEW⟩
      case round =>
        clear HMAT HOZ0 HRB HOK0 HSF HNW HEW
        rename World => wz
        obtain ⟨j, k, d, S, rs2, qo, qc, hj, rfl, rfl, rfl, HKD, HMT, HOZ, HRB, HOK, HRD, HNW, HEW⟩ := hrel
        by_cases hlt : j < c
        · have hji : (j : Int) < (c : Int) := by omega
          obtain ⟨R, hR⟩ : ∃ R, findR S.M j (S.M.length - S.L.length) S.L.length = R := ⟨_, rfl⟩
          have hb := find_lt HOK.out hR
          have HRX := Lib.hid hR
          rw [HOK.out.len, HKD.out.1] at hR
          rw [HKD.out.1] at hb
          have HR := Lib.hid hR
          have HRN := Lib.hid (reduceR_go (p := p) (S := S) hlt)
          clear hR
          go_wp2_with fail
          refine (CW.out _ HEW.out).mono ?_
          rintro e w1 ⟨rfl, rfl⟩
          go_wp2
          go_loopw [15] (fun iv wx => ∃ i : Nat, k ≤ i ∧ i ≤ n ∧ iv = .int .i64 (i : Int) ∧ Hid (findR S.M j (n - i) i = R) ∧ wz = wx) (fun iv _ => n - (intOf iv).toNat)
          case atStart => exact ⟨k, Nat.le_refl _, by omega, rfl, HR, rfl⟩
          case round =>
            clear HR
            obtain ⟨i, hki, hin, rfl, HR, rfl⟩ := hrel
            by_cases hil : i < n
            · have hii : (i : Int) < (n : Int) := by omega
              have hir : i < rs2.length := by rw [HRB.out.len]; exact hil
              have k0 := HMT.out.slice hir
              have hrow := HMT.out.row i hir
              have hcz := hrow.1.c (j := j) (by rw [hrow.2]; exact hlt)
              obtain ⟨v, hv⟩ : ∃ v, (S.M.getD i []).getD j 0 = v := ⟨_, rfl⟩
              have HV := Lib.hid hv
              rw [hv] at hcz
              obtain ⟨gi, hgi⟩ : ∃ gi, (rs2.getD i (0, 0)).1 = gi := ⟨_, rfl⟩
              obtain ⟨ci, hci⟩ : ∃ ci, (rs2.getD i (0, 0)).2 = ci := ⟨_, rfl⟩
              rw [hgi, hci] at k0
              rw [hgi] at hcz
              clear hrow hv hir hgi hci
              by_cases hv0 : v = 0
              · subst hv0
                have HR2 := Lib.hid (show findR S.M j (n - (i + 1)) (i + 1) = R from by
                  rw [← HR.out, show n - i = (n - (i + 1)) + 1 by omega, findR_go HV.out])
                go_wp2
                go_roundw
                case rel => exact ⟨i + 1, by omega, by omega, by go_num, HR2, trivial⟩
                case measure => simp [intOf]; omega
              · have hvb : (v == 0) = false := beq_eq_false_iff_ne.2 hv0
                have hri : R = i := by rw [← HR.out, show n - i = (n - (i + 1)) + 1 by omega, findR_at (by rw [HV.out]; exact hv0)]
                subst hri
                clear HR
                have hrn : ((R : Int) == (n : Int)) = false := by apply beq_eq_false_iff_ne.2; omega
                have hkn : k < n := by omega
                have hki2 : (k : Int) < (n : Int) := by omega
                obtain ⟨M1, hM1⟩ : ∃ M1, swapL S.M k R [] = M1 := ⟨_, rfl⟩
                obtain ⟨d2, hd2⟩ : ∃ d2, (if R = k then d else -d % p) = d2 := ⟨_, rfl⟩
                have HST := Lib.hid (show stepR p j S = ⟨clearR p k j (scaleM p k j M1), S.L ++ [(j : Int)], d2 * ((M1.getD k []).getD j 0) % p⟩ from by
                  rw [stepR_some HRX.out (by rw [HOK.out.len]; omega), HKD.out.1, HKD.out.2, hM1, hd2])
                have hfk : 0 ≤ d ∧ d < p := by have := HOK.out.f; rwa [HKD.out.2] at this
                have HD2 := Lib.hid (show 0 ≤ d2 ∧ d2 < p by
                  rw [← hd2]
                  split
                  · exact hfk
                  · exact ⟨Int.emod_nonneg _ (by omega), Int.emod_lt_of_pos _ (by omega)⟩)
                have HM1 := Lib.hid hM1
                have HDE := Lib.hid hd2
                have HM1V := Lib.hid (show (M1.getD k []).getD j 0 = v by
                  rw [← hM1, swap_get [] (by rw [HOK.out.len]; omega) (by rw [HOK.out.len]; omega), swI_at]; exact HV.out)
                have HOK1 := Lib.hid (show M1.length = n ∧ (∀ x, x < n → (M1.getD x []).length = c) ∧ Res p M1 by
                  rw [← hM1]; exact EOk.swap HOK.out.len HOK.out.row HOK.out.res hkn (show R < n by omega))
                clear hM1 hd2
                go_upto_if 85 with fail
                go_cut [11] from 54 to 207 (fun dv wx => ∃ rs3, dv = .int .i64 d2 ∧ Hid (Mat wx b rs3 c M1) ∧ Hid (RBk C N n rs3) ∧ Hid (OZ wx N (.slice qo k qc) S.L) ∧ Hid (N ≤ wx.heap.size) ∧ Hid (Ext w wx))
                case first =>
                  by_cases hRk : R = k
                  · subst hRk
                    have hm : M1 = S.M := by rw [← HM1.out]; exact swap_same _ _ _
                    have hd : d2 = d := by rw [← HDE.out]; exact if_pos rfl
                    have HMN := Lib.hid (show Mat wz b rs2 c M1 by rw [hm]; exact HMT.out)
                    clear hm
                    go_wp2
                    go_meet
                    exact ⟨rs2, by rw [hd], HMN, HRB, HOZ, HNW, HEW⟩
                  · have hRb : ((R : Int) != (k : Int)) = true := by
                      have : ((R : Int) == (k : Int)) = false := by apply beq_eq_false_iff_ne.2; omega
                      simp only [bne, this]; rfl
                    have hd : d2 = -d % p := by rw [← HDE.out]; exact if_neg hRk
                    have hRr : R < rs2.length := by rw [HRB.out.len]; exact hil
                    have hkr : k < rs2.length := by rw [HRB.out.len]; exact hkn
                    have k1 := HMT.out.slice hkr
                    have k2 := HMT.out.slice hRr
                    have f0 := HMT.out.rows.f k
                    have f1 := HMT.out.rows.f R
                    have hsw := HMT.out.swap hRr hkr
                    have hcm : swapL S.M R k [] = M1 := by rw [← HM1.out]; exact swap_comm hRk
                    rw [hcm] at hsw
                    have hrb := HRB.out.swap hil hkn
                    obtain ⟨gk, hgk⟩ : ∃ gk, (rs2.getD k (0, 0)).1 = gk := ⟨_, rfl⟩
                    obtain ⟨ck, hck⟩ : ∃ ck, (rs2.getD k (0, 0)).2 = ck := ⟨_, rfl⟩
                    obtain ⟨gR, hgR⟩ : ∃ gR, (rs2.getD R (0, 0)).1 = gR := ⟨_, rfl⟩
                    obtain ⟨cR, hcR⟩ : ∃ cR, (rs2.getD R (0, 0)).2 = cR := ⟨_, rfl⟩
                    rw [hgk, hck] at k1 hsw
                    rw [hgR, hcR] at k2 hsw
                    have o1 := only_set1 wz b R (.slice (some ⟨gk, 0, none⟩) c ck)
                    have o2 := only_set1 (wz.setCell ⟨b, R, none⟩ (.slice (some ⟨gk, 0, none⟩) c ck)) b k (.slice (some ⟨gR, 0, none⟩) c cR)
                    have HEN := Lib.hid (Below.trans HEW.out (Below.trans (o1.below (by rw [HCE.out]; exact HCb.out)) (o2.below (by rw [HCE.out]; exact HCb.out))))
                    have HON := Lib.hid ((HOZ.out.far (fun q hq => o1.block q (by have := (HOZ.out.blk q hq).1; omega))))
                    have HON := Lib.hid ((HON.out.far (fun q hq => o2.block q (by have := (HON.out.blk q hq).1; omega))))
                    have HSZ := Lib.hid (show N ≤ ((wz.setCell ⟨b, R, none⟩ (.slice (some ⟨gk, 0, none⟩) c ck)).setCell ⟨b, k, none⟩ (.slice (some ⟨gR, 0, none⟩) c cR)).heap.size by rw [o2.size, o1.size]; exact HNW.out)
                    have HSW := Lib.hid hsw
                    have HRB3 := Lib.hid hrb
                    have n1 : ¬ R = k := hRk
                    have n2 : ¬ k = R := fun h => hRk h.symm
                    have hwf : IntKind.i64.wrap (-d) = -d := IntWalk.i64_in _ (by omega)
                    have CM := Lib.hid (CMOD.out (-d))
                    rw [← hd] at CM
                    clear hsw hrb hgk hck hgR hcR hRr hkr o1 o2 k0 hcz hcm hd
                    go_upto_region 23 with fail
                    first | go_region | fail "r23"
                    clear k1 k2 f0 f1
                    go_wp2_with fail
                    refine (CM.out _).mono ?_
                    rintro e w3 ⟨rfl, rfl⟩
                    go_wp2
                    go_meet
                    first | exact ⟨_, rfl, HSW, HRB3, HON, HSZ, HEN⟩ | exact ⟨_, rfl, Lib.hid (HSW.out.below (Below.refl _ _).drew), HRB3, Lib.hid (HON.out.far (fun _ _ => rfl)), HSZ, Lib.hid HEN.out.drew⟩
                case rest =>
                  clear HMT HOZ HRB HNW HEW k0 hcz hki
                  obtain ⟨rs3, rfl, HMT, HRB, HOZ, HNW, HEW⟩ := hcut
                  have hkr : k < rs3.length := by rw [HRB.out.len]; exact hkn
                  have k0 := HMT.out.slice hkr
                  have hrow := HMT.out.row k hkr
                  have hcz := hrow.1.c (j := j) (by rw [hrow.2]; exact hlt)
                  rw [HM1V.out] at hcz
                  have hvr := HOK1.out.2.2.at (i := k) (j := j) (by rw [HOK1.out.1]; exact hkn) (by rw [hrow.2]; exact hlt)
                  rw [HM1V.out] at hvr
                  obtain ⟨gk, hgk⟩ : ∃ gk, (rs3.getD k (0, 0)).1 = gk := ⟨_, rfl⟩
                  obtain ⟨ck, hck⟩ : ∃ ck, (rs3.getD k (0, 0)).2 = ck := ⟨_, rfl⟩
                  rw [hgk, hck] at k0
                  rw [hgk] at hcz
                  have HGK := Lib.hid (And.intro hgk hck)
                  obtain ⟨s1, s2, s3, s4⟩ := mul_step hp hp2 HD2.out.1 HD2.out.2 hvr.1 hvr.2
                  obtain ⟨t1, ht1⟩ : ∃ t1, d2 * v = t1 := ⟨_, rfl⟩
                  rw [ht1] at s1 s2 s3 s4
                  obtain ⟨y, hy⟩ : ∃ y, t1 % p = y := ⟨_, rfl⟩
                  rw [hy] at s2 s3 s4
                  have s1b : IntKind.i64.wrap (d2 * v) = t1 := by rw [ht1]; exact s1
                  have s6 : IntKind.i64.wrap y = y := IntWalk.i64_in _ (by omega)
                  have s7 : IntKind.i64.wrap (t1.tmod p) = y := by rw [s2]; exact s6
                  have HST2 := Lib.hid (show stepR p j S = ⟨clearR p k j (scaleM p k j M1), S.L ++ [(j : Int)], y⟩ from by
                    rw [HST.out, HM1V.out, ht1, hy])
                  obtain ⟨inv, hinv⟩ : ∃ inv, invZ v p = inv := ⟨_, rfl⟩
                  have hir := invZ_lt (a := v) (p := p) (by omega)
                  have CV := Lib.hid (fun wx => refInverseZ v p wx hvr.1 hvr.2 (by omega) hp2)
                  rw [hinv] at hir CV
                  have HIR := Lib.hid hir
                  obtain ⟨f, hfd⟩ : ∃ f : Nat → Int, f = fun x => (M1.getD k []).getD x 0 * inv % p := ⟨_, rfl⟩
                  have HF := Lib.hid hfd
                  have HRLK := Lib.hid (show (M1.getD k []).length = c from HOK1.out.2.1 k hkn)
                  have HSC := Lib.hid (show scaleM p k j M1 = M1.set k (mixL f (M1.getD k []) 0 c) by
                    unfold scaleM scaleRow
                    rw [HM1V.out, hinv, ← HRLK.out, mix_all, hfd])
                  have hknm : k < M1.length := by rw [HOK1.out.1]; exact hkn
                  have HKNM := Lib.hid hknm
                  clear hkr hrow hgk hck ht1 hy hinv hir hfd HST hknm
                  go_wp2_with fail
                  refine (CV.out _).mono ?_
                  rintro e w5 ⟨rfl, rfl⟩
                  clear CV k0 hcz s1 s2 s3 s4 s1b s6 s7
                  go_wp2
                  go_loopw [17] (fun xv wx => ∃ x : Nat, x ≤ c ∧ xv = .int .i64 (x : Int) ∧ Hid (Mat wx b rs3 c (M1.set k (mixL f (M1.getD k []) 0 x))) ∧ Hid (OZ wx N (.slice qo k qc) S.L) ∧ Hid (N ≤ wx.heap.size) ∧ Hid (Ext w wx))
                    (fun xv _ => c - (intOf xv).toNat)
                  case atStart => exact ⟨0, Nat.zero_le _, rfl, Lib.hid (by rw [mix_zero, set_same]; exact HMT.out), HOZ, HNW, HEW⟩
                  case round =>
                    clear HMT HOZ HNW HEW
                    rename World => wx
                    obtain ⟨x, hx, rfl, HMT, HOZ, HNW, HEW⟩ := hrel
                    have hkr : k < rs3.length := by rw [HRB.out.len]; exact hkn
                    have k0 := HMT.out.slice hkr
                    rw [HGK.out.1, HGK.out.2] at k0
                    by_cases hxl : x < c
                    · have hxi : (x : Int) < (c : Int) := by omega
                      have hri := HMT.out.row k hkr
                      rw [set_at HKNM.out] at hri
                      have c1 := hri.1.c (j := x) (by rw [hri.2]; exact hxl)
                      have q1 := hri.1.f x
                      rw [mix_get f (M1.getD k []) 0 x (by rw [HRLK.out]; exact hxl), if_neg (Nat.lt_irrefl x)] at c1
                      have b1 := HOK1.out.2.2.at (i := k) (j := x) HKNM.out (by rw [HRLK.out]; exact hxl)
                      have hput := HMT.out.put hkr hxl (f x)
                      rw [set_at HKNM.out, List.set_set, mix_set f (M1.getD k []) 0 (by rw [HRLK.out]; exact hxl)] at hput
                      have hon := only_set1 wx (rs3.getD k (0, 0)).1 x (.int .i64 (f x))
                      have hlo := HRB.out.lo k hkn
                      have hhi := HRB.out.hi k hkn
                      have hfx : f x = (M1.getD k []).getD x 0 * inv % p := by rw [HF.out]
                      rw [HGK.out.1] at c1 q1 hput hon hlo hhi
                      have HOZ2 := Lib.hid (HOZ.out.far (fun q hq => hon.block q (by have := (HOZ.out.blk q hq).1; omega)))
                      have HEW2 := Lib.hid (Below.trans HEW.out (hon.below (by rw [HCE.out]; exact hlo)))
                      have HNW2 := Lib.hid (show N ≤ (wx.setCell ⟨gk, x, none⟩ (.int .i64 (f x))).heap.size by rw [hon.size]; exact HNW.out)
                      obtain ⟨v1, hv1⟩ : ∃ v1, (M1.getD k []).getD x 0 = v1 := ⟨_, rfl⟩
                      rw [hv1] at c1 b1 hfx
                      obtain ⟨s1, s2, s3, s4⟩ := mul_step hp hp2 b1.1 b1.2 HIR.out.1 HIR.out.2
                      obtain ⟨y2, hy⟩ : ∃ y2, f x = y2 := ⟨_, rfl⟩
                      rw [hy] at hput hfx HOZ2 HEW2 HNW2
                      obtain ⟨t2, ht2⟩ : ∃ t2, v1 * inv = t2 := ⟨_, rfl⟩
                      rw [ht2] at s1 s2 s3 s4 hfx
                      rw [← hfx] at s2 s3 s4
                      have s1b : IntKind.i64.wrap (v1 * inv) = t2 := by rw [ht2]; exact s1
                      have s6 : IntKind.i64.wrap y2 = y2 := IntWalk.i64_in _ (by omega)
                      have s7 : IntKind.i64.wrap (t2.tmod p) = y2 := by rw [s2]; exact s6
                      have HP := Lib.hid hput
                      clear hkr hri hput hon hlo hhi hv1 hy ht2 hfx s3 s4 b1
                      go_upto_region 30 with fail
                      first | go_region | fail "r30"
                      go_wp2
                      go_roundw
                      case rel => first | exact ⟨x + 1, by omega, by go_num, HP, HOZ2, HNW2, HEW2⟩ | exact ⟨x + 1, by omega, by go_num, Lib.hid (HP.out.below (Below.refl _ _).drew), HOZ2, HNW2, Lib.hid HEW2.out.drew⟩
                      case measure => simp [intOf]; omega
                    · obtain rfl : c = x := by omega
                      have HM2 := HMT
                      rw [← HSC.out] at HM2
                      obtain ⟨b1, b2, b3⟩ := scale_ok (np := k) (col := j) hp HOK1.out.1 HOK1.out.2.1 HOK1.out.2.2 hkn
                      obtain ⟨M2, hM2⟩ : ∃ M2, scaleM p k j M1 = M2 := ⟨_, rfl⟩
                      rw [hM2] at HM2 b1 b2 b3 HST2
                      have HOK2 := Lib.hid (And.intro b1 (And.intro b2 b3))
                      obtain ⟨G, hG⟩ : ∃ G : Nat → List Int, G = fun i => if i = k then M2.getD i [] else elimRowR p j (M2.getD k []) (M2.getD i []) := ⟨_, rfl⟩
                      have HG := Lib.hid hG
                      have HCL := Lib.hid (show clearR p k j M2 = mixL G M2 [] n by rw [← b1, mix_all, hG]; rfl)
                      have HTOP := Lib.hid (show G k = M2.getD k [] by rw [hG]; simp)
                      clear b1 b2 b3 hM2 hG HMT HSC HF HIR HRLK HKNM hkr
                      go_wp2
                      clear k0
                      go_loopw [18, 19, 20] (fun iv _ _ wy => ∃ i : Nat, i ≤ n ∧ iv = .int .i64 (i : Int) ∧ Hid (Mat wy b rs3 c (mixL G M2 [] i)) ∧ Hid (OZ wy N (.slice qo k qc) S.L) ∧ Hid (N ≤ wy.heap.size) ∧ Hid (Ext w wy))
                        (fun iv _ _ _ => n - (intOf iv).toNat)
                      case atStart => exact ⟨0, Nat.zero_le _, rfl, Lib.hid (by rw [mix_zero]; exact HM2.out), HOZ, HNW, HEW⟩
                      case round =>
                        clear HM2 HOZ HNW HEW
                        rename World => wy
                        obtain ⟨i, hi, rfl, HMT, HOZ, HNW, HEW⟩ := hrel
                        by_cases hil2 : i < n
                        · have hii : (i : Int) < (n : Int) := by omega
                          have him : i < M2.length := by rw [HOK2.out.1]; exact hil2
                          have hkm : k < M2.length := by rw [HOK2.out.1]; exact hkn
                          have hir : i < rs3.length := by rw [HRB.out.len]; exact hil2
                          have hkr : k < rs3.length := by rw [HRB.out.len]; exact hkn
                          have HROW := Lib.hid (show (mixL G M2 [] i).getD i [] = M2.getD i [] by rw [mix_get G M2 [] i him, if_neg (Nat.lt_irrefl i)])
                          have HTR := Lib.hid (show (mixL G M2 [] i).getD k [] = M2.getD k [] by
                            rw [mix_get G M2 [] i hkm]
                            split
                            · exact HTOP.out
                            · rfl)
                          have HML2 := Lib.hid (show i < (mixL G M2 [] i).length by rw [mix_len]; exact him)
                          have k0 := HMT.out.slice hir
                          have hri := HMT.out.row i hir
                          rw [HROW.out] at hri
                          have hcz := hri.1.c (j := j) (by rw [hri.2]; exact hlt)
                          have hfr := HOK2.out.2.2.at (i := i) (j := j) him (by rw [hri.2]; exact hlt)
                          have HRC := Lib.hid hri.2
                          obtain ⟨f1, hf1⟩ : ∃ f1, (M2.getD i []).getD j 0 = f1 := ⟨_, rfl⟩
                          rw [hf1] at hcz hfr
                          have HF1 := Lib.hid hf1
                          obtain ⟨gi, hgi⟩ : ∃ gi, (rs3.getD i (0, 0)).1 = gi := ⟨_, rfl⟩
                          obtain ⟨ci, hci⟩ : ∃ ci, (rs3.getD i (0, 0)).2 = ci := ⟨_, rfl⟩
                          rw [hgi, hci] at k0
                          rw [hgi] at hcz
                          have HGI := Lib.hid (And.intro hgi hci)
                          clear hri hf1 hgi hci
                          by_cases hik : i = k
                          · subst hik
                            have HS := Lib.hid (mix_same G M2 [] (j := i) HTOP.out)
                            have hbb : ((i : Int) != (i : Int)) = false := by simp
                            clear hir hkr him hkm
                            go_wp2
                            go_loopw [20] (fun xv wy2 => xv = .int .i64 0 ∧ wy = wy2) (fun _ _ => 0)
                            case atStart => exact ⟨rfl, rfl⟩
                            case round =>
                              obtain ⟨rfl, rfl⟩ := hrel
                              have hc0i : (0 : Int) < (c : Int) := by omega
                              go_wp2
                              go_roundw
                              case rel => exact ⟨i + 1, by omega, by go_num, Lib.hid (by rw [HS.out]; exact HMT.out), HOZ, HNW, HEW⟩
                              case measure => simp [intOf]; omega
                          · have hbb : ((i : Int) != (k : Int)) = true := by
                              have : ((i : Int) == (k : Int)) = false := by apply beq_eq_false_iff_ne.2; omega
                              simp only [bne, this]; rfl
                            have HFR := Lib.hid hfr
                            obtain ⟨g, hg⟩ : ∃ g : Nat → Int, g = fun x => ((M2.getD i []).getD x 0 - f1 * (M2.getD k []).getD x 0 % p) % p := ⟨_, rfl⟩
                            have HGF := Lib.hid hg
                            have HGE := Lib.hid (show mixL g (M2.getD i []) 0 c = G i by
                              rw [HG.out]
                              simp only [if_neg hik]
                              unfold elimRowR
                              rw [← HRC.out, mix_all, hg, HF1.out])
                            have HMS := Lib.hid (mix_set G M2 [] (j := i) him)
                            have HK1 := Lib.hid (fun wy2 (h : Mat wy2 b rs3 c ((mixL G M2 [] i).set i (mixL g (M2.getD i []) 0 0))) => h)
                            have HM20 := Lib.hid (show Mat wy b rs3 c ((mixL G M2 [] i).set i (mixL g (M2.getD i []) 0 0)) by
                              have e : (mixL G M2 [] i).set i (mixL g (M2.getD i []) 0 0) = mixL G M2 [] i := by
                                rw [mix_zero, ← HROW.out]; exact set_same
                              rw [e]; exact HMT.out)
                            have hfw : IntKind.i64.wrap f1 = f1 := IntWalk.i64_in _ (by omega)
                            clear hg HK1 hir hkr him hkm HMT
                            go_wp2
                            clear k0 hcz hfw
                            go_loopw [20] (fun xv wy2 => ∃ x : Nat, x ≤ c ∧ xv = .int .i64 (x : Int) ∧ Hid (Mat wy2 b rs3 c ((mixL G M2 [] i).set i (mixL g (M2.getD i []) 0 x))) ∧ Hid (OZ wy2 N (.slice qo k qc) S.L) ∧ Hid (N ≤ wy2.heap.size) ∧ Hid (Ext w wy2))
                              (fun xv _ => c - (intOf xv).toNat)
                            case atStart => exact ⟨0, Nat.zero_le _, rfl, HM20, HOZ, HNW, HEW⟩
                            case round =>
                              clear HM20 HOZ HNW HEW
                              rename World => wy2
                              obtain ⟨x, hx, rfl, HMT, HOZ, HNW, HEW⟩ := hrel
                              have hir : i < rs3.length := by rw [HRB.out.len]; exact hil2
                              have k0 := HMT.out.slice hir
                              rw [HGI.out.1, HGI.out.2] at k0
                              by_cases hxl : x < c
                              · have hxi : (x : Int) < (c : Int) := by omega
                                have hkr : k < rs3.length := by rw [HRB.out.len]; exact hkn
                                have him : i < M2.length := by rw [HOK2.out.1]; exact hil2
                                have hkm : k < M2.length := by rw [HOK2.out.1]; exact hkn
                                have k1 := HMT.out.slice hkr
                                have hri := HMT.out.row i hir
                                rw [set_at HML2.out] at hri
                                have hrk := HMT.out.row k hkr
                                rw [set_off hik, HTR.out] at hrk
                                have c1 := hri.1.c (j := x) (by rw [hri.2]; exact hxl)
                                have q1 := hri.1.f x
                                rw [mix_get g (M2.getD i []) 0 x (by rw [HRC.out]; exact hxl), if_neg (Nat.lt_irrefl x)] at c1
                                have c2 := hrk.1.c (j := x) (by rw [hrk.2]; exact hxl)
                                have b1 := HOK2.out.2.2.at (i := i) (j := x) him (by rw [HRC.out]; exact hxl)
                                have b2 := HOK2.out.2.2.at (i := k) (j := x) hkm (by rw [hrk.2]; exact hxl)
                                have hput := HMT.out.put hir hxl (g x)
                                rw [set_at HML2.out, List.set_set, mix_set g (M2.getD i []) 0 (by rw [HRC.out]; exact hxl)] at hput
                                have hon := only_set1 wy2 (rs3.getD i (0, 0)).1 x (.int .i64 (g x))
                                have hlo := HRB.out.lo i hil2
                                have hhi := HRB.out.hi i hil2
                                have hgx : g x = ((M2.getD i []).getD x 0 - f1 * (M2.getD k []).getD x 0 % p) % p := by rw [HGF.out]
                                rw [HGI.out.1] at c1 q1 hput hon hlo hhi
                                rw [HGK.out.1, HGK.out.2] at k1
                                rw [HGK.out.1] at c2
                                have HOZ2 := Lib.hid (HOZ.out.far (fun q hq => hon.block q (by have := (HOZ.out.blk q hq).1; omega)))
                                have HEW2 := Lib.hid (Below.trans HEW.out (hon.below (by rw [HCE.out]; exact hlo)))
                                have HNW2 := Lib.hid (show N ≤ (wy2.setCell ⟨gi, x, none⟩ (.int .i64 (g x))).heap.size by rw [hon.size]; exact HNW.out)
                                obtain ⟨a1, ha1⟩ : ∃ a1, (M2.getD i []).getD x 0 = a1 := ⟨_, rfl⟩
                                obtain ⟨a2, ha2⟩ : ∃ a2, (M2.getD k []).getD x 0 = a2 := ⟨_, rfl⟩
                                rw [ha1] at c1 b1 hgx
                                rw [ha2] at c2 b2 hgx
                                obtain ⟨s1, s2, s3, s4, s5, s6⟩ := less_step hp hp2 b1.1 b1.2 HFR.out.1 HFR.out.2 b2.1 b2.2
                                obtain ⟨y2, hy⟩ : ∃ y2, g x = y2 := ⟨_, rfl⟩
                                rw [hy] at hput hgx HOZ2 HEW2 HNW2
                                obtain ⟨t2, ht2⟩ : ∃ t2, f1 * a2 = t2 := ⟨_, rfl⟩
                                have s1b : IntKind.i64.wrap (f1 * a2) = t2 := by rw [← ht2]; exact s1
                                rw [ht2] at s1 s2 s3 s4 s5 s6 hgx
                                obtain ⟨t3, ht3⟩ : ∃ t3, t2 % p = t3 := ⟨_, rfl⟩
                                rw [ht3] at s2 s3 s4 s5 s6 hgx
                                have s2b : IntKind.i64.wrap (t2.tmod p) = t3 := by rw [s2]; exact s3
                                obtain ⟨t4, ht4⟩ : ∃ t4, a1 - t3 = t4 := ⟨_, rfl⟩
                                have s4b : IntKind.i64.wrap (a1 - t3) = t4 := by rw [← ht4]; exact s4
                                rw [ht4] at s4 s5 s6 hgx
                                have CM := Lib.hid (CMOD.out t4)
                                rw [← hgx] at CM
                                have HP := Lib.hid hput
                                clear hkr hri hrk hput hon hlo hhi ha1 ha2 hy ht2 ht3 ht4 hgx s5 s6 b1 b2 hir him hkm
                                go_upto_region 38 with fail
                                go_still_tail 27, (by kernel_rfl)
                                still_call ((CM.out _).mono (fun _ _ h => ⟨h.1, h.2.symm⟩))
                                repeat still_step
                                refine wpStill_nil ?_
                                change wpList _ _ _ _ _ wy2.drew
                                go_wp2
                                go_roundw
                                case rel => first | exact ⟨x + 1, by omega, by go_num, HP, HOZ2, HNW2, HEW2⟩ | exact ⟨x + 1, by omega, by go_num, Lib.hid (HP.out.below (by repeat (first | exact Below.refl _ _ | refine Below.drew ?_))), HOZ2, HNW2, Lib.hid (by repeat (first | exact HEW2.out | refine Below.drew ?_))⟩
                                case measure => simp [intOf]; omega
                              · obtain rfl : c = x := by omega
                                clear hir
                                go_wp2
                                go_roundw
                                case rel => exact ⟨i + 1, by omega, by go_num, Lib.hid (by rw [← HMS.out, ← HGE.out]; exact HMT.out), HOZ, HNW, HEW⟩
                                case measure => simp [intOf]; omega
                        · obtain rfl : n = i := by omega
                          rw [← HCL.out] at HMT
                          have hSL : S.L.length ≤ 1000000 := by rw [HKD.out.1]; omega
                          have hoz := HOZ.out
                          have hNs := HNW.out
                          have HRD2 := Lib.hid (show reduceR p (c - (j + 1)) (j + 1) ⟨clearR p k j M2, S.L ++ [(j : Int)], y⟩ = SF from by rw [← HST2.out, ← HRN.out]; exact HRD.out)
                          have HOK3 := Lib.hid (show EOk p n c ⟨clearR p k j M2, S.L ++ [(j : Int)], y⟩ from by rw [← HST2.out]; exact HOK.out.stepR hp)
                          have HHI := Lib.hid (fun q (hq : q < rs3.length) => HRB.out.hi q (by rw [← HRB.out.len]; exact hq))
                          go_wp2_with (at_builtin; refine wpList_append_z _ rfl (.tmp 204) (.tmp 206) rfl N _ S.L (j : Int) rfl rfl hoz hNs hSL ?_)
                          intro pv' w2 hp2' hB2
                          obtain ⟨qo2, qc2, rfl⟩ := hp2'.slE
                          rw [List.length_append, HKD.out.1] at hp2' ⊢
                          have HP2 := Lib.hid hp2'
                          have HMN := Lib.hid (HMT.out.low hB2 hbN2 HHI.out)
                          have HNN := Lib.hid (Nat.le_trans hNs hB2.size)
                          have HEN := Lib.hid (Below.trans HEW.out (hB2.mono (by rw [HCE.out]; exact HCN.out)))
                          clear hoz hp2' hB2
                          go_wp2
                          go_roundw
                          case rel => exact ⟨j + 1, k + 1, y, _, rs3, qo2, qc2, by omega, by go_num, rfl, rfl, Lib.hid ⟨by simp [HKD.out.1], rfl⟩, HMN, HP2, HRB, HOK3, HRD2, HNN, HEN⟩
                          case measure => simp [intOf]; omega
            · obtain rfl : n = i := by omega
              have hrn : R = n := by have := HR.out; rw [Nat.sub_self] at this; exact this.symm
              have HST := Lib.hid (show stepR p j S = ⟨S.M, S.L, 0⟩ from stepR_none (by rw [HRX.out, HOK.out.len]; exact hrn))
              have HOK2 := Lib.hid (show EOk p n c ⟨S.M, S.L, 0⟩ from by rw [← HST.out]; exact HOK.out.stepR hp)
              have HRD2 := Lib.hid (show reduceR p (c - (j + 1)) (j + 1) ⟨S.M, S.L, 0⟩ = SF from by rw [← HST.out, ← HRN.out]; exact HRD.out)
              clear HR hb
              go_wp2
              go_roundw
              case rel => exact ⟨j + 1, k, 0, ⟨S.M, S.L, 0⟩, rs2, qo, qc, by omega, by go_num, rfl, rfl, Lib.hid ⟨HKD.out.1, rfl⟩, HMT, HOZ, HRB, HOK2, HRD2, HNW, HEW⟩
              case measure => simp [intOf]; omega
        · obtain rfl : c = j := by omega
          have HSE := Lib.hid (show S = SF by have := HRD.out; rw [Nat.sub_self] at this; exact this)
          go_wp2_with fail
          refine (CW.out _ HEW.out).mono ?_
          rintro e w1 ⟨rfl, rfl⟩
          go_wp2
          refine bodyPost_ret (v := .tuple #[.slice (some ⟨b, 0, none⟩) n cn, .slice qo k qc, .int .i64 d]) (by simp [results, Tryz.results41, go_sem]) rfl ⟨b, cn, rs2, qo, k, qc, ?_⟩
          rw [← HSE.out, HKD.out.2]
          exact ⟨rfl, HMT.out, HRB.out.len, HOZ.out.mono (by rw [HCE.out]; exact HCN.out), HEW.out⟩
end Go.Proofs.YthicfkeiggcjjaaGreatDoor
