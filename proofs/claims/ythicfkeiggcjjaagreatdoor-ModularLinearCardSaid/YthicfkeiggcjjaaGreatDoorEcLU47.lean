import Derived.Test.YthicfkeiggcjjaaGreatDoorEcLU33
import Derived.Test.YthicfkeiggcjjaaGreatDoorEcLU34
import Derived.Test.YthicfkeiggcjjaaGreatDoorEcLU35
import Derived.Test.YthicfkeiggcjjaaGreatDoorEcLU36
import Derived.Test.YthicfkeiggcjjaaGreatDoorEcLU46
namespace Go.Proofs.YthicfkeiggcjjaaGreatDoor
open Go Go.RowKit

theorem kerL_len (p : Int) (c : Nat) (S : Ech) (R : Nat) : (kerL p c S R).length ≤ c := by
  unfold kerL
  split
  · exact Nat.zero_le _
  · simp
/-- the matrix has no error -/
theorem matE_ok {p : Int} {M : List (List Int)} (h : matE p M = 0) : mr p = true ∧ ∀ l ∈ M, l.length = widthM M := by
  unfold matE at h
  cases hp : mr p with
  | false => rw [if_pos hp] at h; exact absurd h (by decide)
  | true =>
    rw [if_neg (by rw [hp]; decide)] at h
    refine ⟨rfl, fun l hl => ?_⟩
    by_cases ha : (M.all fun l => decide (l.length = widthM M)) = true
    · have := List.all_eq_true.1 ha l hl
      simpa using this
    · rw [if_neg ha] at h; exact absurd h (by decide)
theorem rank_badE (ao : Option Addr) (n cap : Nat) (M : List (List Int)) (p E : Int) (w : World) (hm : Nss w ao n cap M) (hT : Table64 w) (hn : n ≤ 200) (hE : matE p M = E) (hE0 : E ≠ 0) :
    Calls Tryz.prog 11 #[.slice ao n cap, .int .i64 p] w fun r w' => r = .returned (.tuple #[.int .i64 0, .int .i64 E]) ∧ Ext w w' :=
  (rank_bad ao n cap M p E w hm hT hn hE hE0).mono fun _ _ ⟨h1, h2⟩ => ⟨h1, by rw [← h2]; exact Ext.refl _⟩
theorem kernel_badE (ao : Option Addr) (n cap : Nat) (M : List (List Int)) (p E : Int) (w : World) (hm : Nss w ao n cap M) (hT : Table64 w) (hn : n ≤ 200) (hE : matE p M = E) (hE0 : E ≠ 0) :
    Calls Tryz.prog 13 #[.slice ao n cap, .int .i64 p] w fun r w' => r = .returned (.tuple #[.slice none 0 0, .int .i64 E]) ∧ Ext w w' :=
  (kernel_bad ao n cap M p E w hm hT hn hE hE0).mono fun _ _ ⟨h1, h2⟩ => ⟨h1, by rw [← h2]; exact Ext.refl _⟩
theorem ints_same (ao bo : Option Addr) (n m ca cb : Nat) (l : List Int) (w : World) (ha : Ns w ao n ca l) (hb : Ns w bo m cb l) (hn : n ≤ 1000000) :
    Calls Tryz.prog 16 #[.slice ao n ca, .slice bo m cb] w fun e w' => e = .returned (.bool true) ∧ Ext w w' :=
  (ints_any ao bo n m ca cb l l w ha hb hn).mono fun _ _ ⟨h1, h2⟩ => ⟨by rw [h1]; simp, h2⟩

set_option maxRecDepth 100000 in
set_option maxHeartbeats 16000000 in
theorem mlinear_any (ao bo : Option Addr) (n ca m cb : Nat) (M : List (List Int)) (bs : List Int) (p : Int) (w : World) (hM : Nss w ao n ca M) (hb : Ns w bo m cb bs) (hT : Table64 w) (hP : Pow10 w) :
    Calls Tryz.prog 3 #[.slice ao n ca, .slice bo m cb, .int .i64 p] w fun e w' => e = .returned (.bool true) ∧ Ext w w' := by
  have HM := Lib.hid hM
  have HB := Lib.hid hb
  have HT := Lib.hid hT
  have HAW0 := Lib.hid (show ∀ wx, Ext w wx → Calls Tryz.prog 8 #[] wx fun e w' => e = .returned (.bool true) ∧ Ext wx w' from fun wx h => mawake_any wx (hT.below h) (hP.below h))
  have CSM := Lib.hid (small_any ao n ca M _ w hM rfl)
  clear hM hb hT hP
  go_enter Tryz.func3, Tryz.ntmps3
  by_cases hs : n ≤ 6 ∧ ∀ i, i < n → (M.getD i []).length ≤ 6
  · rw [decide_eq_true hs] at CSM
    go_wp2_with fail
    refine CSM.out.mono ?_
    rintro e w1 ⟨rfl, rfl⟩
    clear CSM
    by_cases h6 : (6 : Int) < (m : Int)
    · clear hs
      go_wp2_with fail
      refine (HAW0.out _ (Ext.refl _)).mono ?_
      rintro e wa ⟨rfl, hwa⟩
      have HEA := Lib.hid hwa
      clear hwa
      go_wp2
      go_ret
      exact ⟨rfl, HEA.out⟩
    · go_wp2_with fail
      refine (modulus_any p _).mono ?_
      by_cases hmod : p < 100000 ∨ 2147483637 < p
      · rw [decide_eq_true hmod]
        rintro e w2 ⟨rfl, rfl⟩
        have HMI := Lib.hid (show mr p = isP p from mr_isP (by omega))
        have hn6 : n ≤ 6 := hs.1
        have hm6 : m ≤ 6 := by omega
        have HR6 := Lib.hid hs.2
        clear hmod h6 hs
        go_wp2_with fail
        refine (twinLists_any ao n ca M _ HM.out (by omega) (fun i hi => by have := HR6.out i hi; omega)).mono ?_
        rintro e w3 ⟨lo, lc, rfl, hl, hE⟩
        have HE3 := Lib.hid hE
        have HL3 := Lib.hid hl
        clear hE hl
        go_wp2_with fail
        refine (twinInts_any bo m cb bs _ (HB.out.below HE3.out) (by omega)).mono ?_
        rintro e w4 ⟨cv, rfl, hoz, hE⟩
        obtain ⟨co, cc, rfl, hcn⟩ := hoz.nsV
        have hbl := HB.out.len
        rw [hbl] at hcn ⊢
        have HEV := Lib.hid (HE3.out.trans hE)
        have HL := Lib.hid (HL3.out.below hE)
        have HC := Lib.hid hcn
        have HMV := Lib.hid (HM.out.below HEV.out)
        have HBV := Lib.hid (HB.out.below HEV.out)
        have HTV := Lib.hid (HT.out.below HEV.out)
        have HAW := Lib.hid (fun wx (h : Ext w4 wx) => HAW0.out wx (HEV.out.trans h))
        have HX0 := Lib.hid (Ext.refl w4)
        have CLS := Lib.hid (fun wx (h : Ext w4 wx) => lists_same lo ao n lc ca M wx (HL.out.below h) (HMV.out.below h) (by omega) (fun i hi => by have := HR6.out i hi; omega))
        have CIS := Lib.hid (fun wx (h : Ext w4 wx) => ints_same co bo m m cc cb bs wx (HC.out.below h) (HBV.out.below h) (by omega))
        obtain ⟨E, hEE⟩ : ∃ E, matE p M = E := ⟨_, rfl⟩
        have HME := Lib.hid hEE
        have CCK := Lib.hid (fun wx (h : Ext w4 wx) => refCheck_any ao n ca M p E wx (HMV.out.below h) (by omega) (fun i hi => by have := HR6.out i hi; omega) HMI.out HME.out)
        clear hoz hcn hbl hE HE3 HL3 HAW0 HT HM hEE
        by_cases hE0 : E = 0
        · subst hE0
          obtain ⟨hp, hall⟩ := matE_ok HME.out
          obtain ⟨p2, p3⟩ := mr_bounds hp
          obtain ⟨c, hc⟩ : ∃ c, widthM M = c := ⟨_, rfl⟩
          have hrow : ∀ i, i < n → (M.getD i []).length = c := fun i hi => by
            rw [← hc]
            refine hall _ ?_
            have := HMV.out.len
            simp [List.getD, show i < M.length by omega]
          have hc6 : c ≤ 6 := by
            rcases Nat.eq_zero_or_pos n with h | h
            · have h1 := HMV.out.len
              rw [h] at h1
              rw [← hc, List.eq_nil_of_length_eq_zero h1]
              decide
            · have := HR6.out 0 h
              rw [hrow 0 h] at this
              exact this
          obtain ⟨S, hS⟩ : ∃ S, reduceE p c 0 ⟨resM p M, [], 1⟩ = S := ⟨_, rfl⟩
          obtain ⟨R, hR⟩ : ∃ R, freeL S.L S.L.length 0 = R := ⟨_, rfl⟩
          have hok := res_ok (p := p) (n := n) (c := c) (by omega) HMV.out.len hrow
          have hos : EOk p n c S := by rw [← hS]; exact hok.reduce (by omega) c 0 _
          have hpr : noDiv p.toNat 2 := (isP_iff.1 (by rw [← HMI.out]; exact hp)).2.2
          have CRK := Lib.hid (fun wx (h : Ext w4 wx) => rank_yes lo n lc c M S p wx (HL.out.below h) (HTV.out.below h) hp hrow hc (by omega) (by omega) hS)
          have CKR := Lib.hid (fun wx (h : Ext w4 wx) => kernel_yes lo n lc c R M S p wx (HL.out.below h) (HTV.out.below h) hp hrow hc (by omega) (by omega) hS hR)
          have CRR := Lib.hid (fun wx (h : Ext w4 wx) => refRank_any ao n ca c M p S wx (HMV.out.below h) hrow hc (by omega) (by omega) (by omega) p3 hS)
          have CKK := Lib.hid (fun wx (h : Ext w4 wx) => refKernel_any ao n ca c R M p S wx (HMV.out.below h) hrow hc (by omega) (by omega) (by omega) p3 hS hR)
          obtain ⟨KL, hKL⟩ : ∃ KL, kerL p c S R = KL := ⟨_, rfl⟩
          have HKL := Lib.hid (show KL.length ≤ 1000000 by rw [← hKL]; have := kerL_len p c S R; omega)
          rw [hKL] at CKR CKK
          obtain ⟨rk, hrk⟩ : ∃ rk, S.L.length = rk := ⟨_, rfl⟩
          rw [hrk] at CRK CRR
          have HRK := Lib.hid hrk
          clear hKL hrk
          by_cases hcn : c = n
          · subst hcn
            have CDT := Lib.hid (fun wx (h : Ext w4 wx) => det_yes lo c lc M S p wx (HL.out.below h) (HTV.out.below h) hp hrow hc (by omega) hS)
            have CRD := Lib.hid (fun wx (h : Ext w4 wx) => refDet_any ao c ca M p S wx (HMV.out.below h) hrow hc (by omega) (by omega) p3 hS hos.pl)
            obtain ⟨dd, hdd⟩ : ∃ dd, detE c S = dd := ⟨_, rfl⟩
            rw [hdd] at CDT CRD
            obtain ⟨n, hcn⟩ : ∃ n, c = n := ⟨_, rfl⟩
            have HFM := Lib.hid (show 0 < n → ∃ b off ri ci, ao = some ⟨b, off, none⟩ ∧ ∀ wx, Ext w4 wx → wx.cell? ⟨b, off, none⟩ = some (.slice ri n ci) from fun h0 => by
              obtain ⟨b, off, e, hcell⟩ := HMV.out.rows (by omega)
              obtain ⟨ri, ci, h1, _⟩ := hcell 0 (by omega)
              rw [hrow 0 (by omega), Nat.add_zero, hcn] at h1
              exact ⟨b, off, ri, ci, e, fun wx h => (h.cell (lt_of_cell h1)).trans h1⟩)
            by_cases hmn : m = c
            · subst hmn
              obtain ⟨S2, hS2⟩ : ∃ S2, reduceE p m 0 ⟨resM p (wideM m M bs), [], 1⟩ = S2 := ⟨_, rfl⟩
              have CS0 := Lib.hid (fun wx (h : Ext w4 wx) => solve_yes lo co m lc cc M bs S2 p wx (HL.out.below h) (HC.out.below h) (HTV.out.below h) hp hrow hc (by omega) hS2)
              have CR0 := Lib.hid (fun wx (h : Ext w4 wx) => refSolve_any ao bo m ca cb M bs S2 p wx (HMV.out.below h) (HBV.out.below h) hrow hc (by omega) (by omega) p3 hpr hS2)
              subst hcn
              clear hdd hc hS hR hok hos hpr hrow hall hS2 hp
              by_cases hls : S2.L.length < m
              · have CSV := Lib.hid (show ∀ wx, Ext w4 wx → Calls Tryz.prog 14 #[.slice lo m lc, .slice co m cc, .int .i64 p] wx fun r w' => r = .returned (.tuple #[.slice none 0 0, .int .i64 9]) ∧ Ext wx w' from fun wx h => (CS0.out wx h).mono fun _ _ ⟨h1, _, h3⟩ => ⟨h1 hls, h3⟩)
                have CRS := Lib.hid (show ∀ wx, Ext w4 wx → Calls Tryz.prog 21 #[.slice ao m ca, .slice bo m cb, .int .i64 p] wx fun r w' => r = .returned (.tuple #[.slice none 0 0, .bool false]) ∧ Ext wx w' from fun wx h => (CR0.out wx h).mono fun _ _ ⟨h1, _, h3⟩ => ⟨h1 hls, h3⟩)
                clear CS0 CR0 hls
                by_cases h0 : 0 < m
                · obtain ⟨b, off, ri, ci, rfl, hfm⟩ := HFM.out h0
                  have hm0 : (0 : Int) < (m : Int) := by omega
                  have HFC := Lib.hid hfm
                  clear HFM hfm h0
                  go_wp2_with fail
                  refine (CRK.out _ HX0.out).mono ?_
                  rintro e q1 ⟨rfl, hq1⟩
                  have HX1 := Lib.hid (HX0.out.trans hq1)
                  clear hq1
                  go_wp2_with fail
                  refine (CDT.out _ HX1.out).mono ?_
                  rintro e q2 ⟨rfl, hq2⟩
                  have HX2 := Lib.hid (HX1.out.trans hq2)
                  clear hq2
                  go_wp2_with fail
                  refine (CKR.out _ HX2.out).mono ?_
                  rintro e q3 ⟨vo, vk, vc, rfl, hns, hq3⟩
                  have HX3 := Lib.hid (HX2.out.trans hq3)
                  have HKN := Lib.hid hns
                  have HKW := Lib.hid (show ∀ wx, Ext q3 wx → Ns wx vo vk vc KL from fun wx h => hns.below h)
                  clear hns
                  clear hq3
                  have HKQ := Lib.hid (Ext.refl q3)
                  go_wp2_with fail
                  refine (CSV.out _ HX3.out).mono ?_
                  rintro e q4 ⟨rfl, hq4⟩
                  have HX4 := Lib.hid (HX3.out.trans hq4)
                  have HKQ' := Lib.hid (HKQ.out.trans hq4)
                  clear hq4
                  go_wp2_with fail
                  refine (CLS.out _ HX4.out).mono ?_
                  rintro e q5 ⟨rfl, hq5⟩
                  have HX5 := Lib.hid (HX4.out.trans hq5)
                  have HKQ'' := Lib.hid (HKQ'.out.trans hq5)
                  clear hq5
                  go_wp2_with fail
                  refine (CIS.out _ HX5.out).mono ?_
                  rintro e q6 ⟨rfl, hq6⟩
                  have HX6 := Lib.hid (HX5.out.trans hq6)
                  have HKQ''' := Lib.hid (HKQ''.out.trans hq6)
                  clear hq6
                  go_wp2_with fail
                  refine (CCK.out _ HX6.out).mono ?_
                  rintro e q7 ⟨rfl, hq7⟩
                  have HX7 := Lib.hid (HX6.out.trans hq7)
                  have HKQ'''' := Lib.hid (HKQ'''.out.trans hq7)
                  clear hq7
                  go_wp2_with fail
                  refine (CRR.out _ HX7.out).mono ?_
                  rintro e q8 ⟨rfl, hq8⟩
                  have HX8 := Lib.hid (HX7.out.trans hq8)
                  have HKQ''''' := Lib.hid (HKQ''''.out.trans hq8)
                  clear hq8
                  go_wp2_with fail
                  refine (CKK.out _ HX8.out).mono ?_
                  rintro e q9 ⟨zo, zk, zc, rfl, hns2, hq9⟩
                  have HX9 := Lib.hid (HX8.out.trans hq9)
                  have HZN := Lib.hid hns2
                  clear hns2
                  have HKQ'''''' := Lib.hid (HKQ'''''.out.trans hq9)
                  clear hq9
                  go_wp2_with fail
                  refine (ints_any vo zo vk zk vc zc KL KL _ (HKW.out _ HKQ''''''.out) HZN.out (by rw [← HKN.out.len]; exact HKL.out)).mono ?_
                  rintro e q10 ⟨he, hq10⟩
                  have HX10 := Lib.hid (HX9.out.trans hq10)
                  obtain rfl : e = .returned (.bool true) := by rw [he]; simp
                  clear he
                  have fc := HFC.out _ HX10.out
                  have HKQ''''''' := Lib.hid (HKQ''''''.out.trans hq10)
                  clear hq10
                  go_wp2_with fail
                  refine (CRD.out _ HX10.out).mono ?_
                  rintro e q11 ⟨rfl, hq11⟩
                  have HX11 := Lib.hid (HX10.out.trans hq11)
                  have HKQ'''''''' := Lib.hid (HKQ'''''''.out.trans hq11)
                  clear hq11
                  go_wp2_with fail
                  refine (CRS.out _ HX11.out).mono ?_
                  rintro e q12 ⟨rfl, hq12⟩
                  have HX12 := Lib.hid (HX11.out.trans hq12)
                  have HKQ''''''''' := Lib.hid (HKQ''''''''.out.trans hq12)
                  clear hq12
                  go_wp2_with fail
                  refine (HAW.out _ HX12.out).mono ?_
                  rintro e wa ⟨rfl, hwa⟩
                  have HEA := Lib.hid (HEV.out.trans (HX12.out.trans hwa))
                  clear hwa
                  go_wp2
                  go_ret
                  exact ⟨rfl, HEA.out⟩
                · have hm0 : ¬ (0 : Int) < (m : Int) := by omega
                  clear HFM h0
                  go_wp2_with fail
                  refine (CRK.out _ HX0.out).mono ?_
                  rintro e q13 ⟨rfl, hq13⟩
                  have HX13 := Lib.hid (HX0.out.trans hq13)
                  clear hq13
                  go_wp2_with fail
                  refine (CDT.out _ HX13.out).mono ?_
                  rintro e q14 ⟨rfl, hq14⟩
                  have HX14 := Lib.hid (HX13.out.trans hq14)
                  clear hq14
                  go_wp2_with fail
                  refine (CKR.out _ HX14.out).mono ?_
                  rintro e q15 ⟨vo, vk, vc, rfl, hns, hq15⟩
                  have HX15 := Lib.hid (HX14.out.trans hq15)
                  have HKN := Lib.hid hns
                  have HKW := Lib.hid (show ∀ wx, Ext q15 wx → Ns wx vo vk vc KL from fun wx h => hns.below h)
                  clear hns
                  clear hq15
                  have HKQ := Lib.hid (Ext.refl q15)
                  go_wp2_with fail
                  refine (CSV.out _ HX15.out).mono ?_
                  rintro e q16 ⟨rfl, hq16⟩
                  have HX16 := Lib.hid (HX15.out.trans hq16)
                  have HKQ' := Lib.hid (HKQ.out.trans hq16)
                  clear hq16
                  go_wp2_with fail
                  refine (CLS.out _ HX16.out).mono ?_
                  rintro e q17 ⟨rfl, hq17⟩
                  have HX17 := Lib.hid (HX16.out.trans hq17)
                  have HKQ'' := Lib.hid (HKQ'.out.trans hq17)
                  clear hq17
                  go_wp2_with fail
                  refine (CIS.out _ HX17.out).mono ?_
                  rintro e q18 ⟨rfl, hq18⟩
                  have HX18 := Lib.hid (HX17.out.trans hq18)
                  have HKQ''' := Lib.hid (HKQ''.out.trans hq18)
                  clear hq18
                  go_wp2_with fail
                  refine (CCK.out _ HX18.out).mono ?_
                  rintro e q19 ⟨rfl, hq19⟩
                  have HX19 := Lib.hid (HX18.out.trans hq19)
                  have HKQ'''' := Lib.hid (HKQ'''.out.trans hq19)
                  clear hq19
                  go_wp2_with fail
                  refine (CRR.out _ HX19.out).mono ?_
                  rintro e q20 ⟨rfl, hq20⟩
                  have HX20 := Lib.hid (HX19.out.trans hq20)
                  have HKQ''''' := Lib.hid (HKQ''''.out.trans hq20)
                  clear hq20
                  go_wp2_with fail
                  refine (CKK.out _ HX20.out).mono ?_
                  rintro e q21 ⟨zo, zk, zc, rfl, hns2, hq21⟩
                  have HX21 := Lib.hid (HX20.out.trans hq21)
                  have HZN := Lib.hid hns2
                  clear hns2
                  have HKQ'''''' := Lib.hid (HKQ'''''.out.trans hq21)
                  clear hq21
                  go_wp2_with fail
                  refine (ints_any vo zo vk zk vc zc KL KL _ (HKW.out _ HKQ''''''.out) HZN.out (by rw [← HKN.out.len]; exact HKL.out)).mono ?_
                  rintro e q22 ⟨he, hq22⟩
                  have HX22 := Lib.hid (HX21.out.trans hq22)
                  obtain rfl : e = .returned (.bool true) := by rw [he]; simp
                  clear he
                  have HKQ''''''' := Lib.hid (HKQ''''''.out.trans hq22)
                  clear hq22
                  go_wp2_with fail
                  refine (CRD.out _ HX22.out).mono ?_
                  rintro e q23 ⟨rfl, hq23⟩
                  have HX23 := Lib.hid (HX22.out.trans hq23)
                  have HKQ'''''''' := Lib.hid (HKQ'''''''.out.trans hq23)
                  clear hq23
                  go_wp2_with fail
                  refine (CRS.out _ HX23.out).mono ?_
                  rintro e q24 ⟨rfl, hq24⟩
                  have HX24 := Lib.hid (HX23.out.trans hq24)
                  have HKQ''''''''' := Lib.hid (HKQ''''''''.out.trans hq24)
                  clear hq24
                  go_wp2_with fail
                  refine (HAW.out _ HX24.out).mono ?_
                  rintro e wa ⟨rfl, hwa⟩
                  have HEA := Lib.hid (HEV.out.trans (HX24.out.trans hwa))
                  clear hwa
                  go_wp2
                  go_ret
                  exact ⟨rfl, HEA.out⟩
              · obtain ⟨SL, hSL⟩ : ∃ SL, solL m S2 = SL := ⟨_, rfl⟩
                have CSV := Lib.hid (show ∀ wx, Ext w4 wx → Calls Tryz.prog 14 #[.slice lo m lc, .slice co m cc, .int .i64 p] wx fun r w' => ∃ xo xc, r = .returned (.tuple #[.slice xo m xc, .int .i64 0]) ∧ Ns w' xo m xc SL ∧ Ext wx w' from fun wx h => (CS0.out wx h).mono fun _ _ ⟨_, h2, h3⟩ => by
                  obtain ⟨xo, xc, e1, e2⟩ := h2 hls
                  rw [hSL] at e2
                  exact ⟨xo, xc, e1, e2, h3⟩)
                have CRS := Lib.hid (show ∀ wx, Ext w4 wx → Calls Tryz.prog 21 #[.slice ao m ca, .slice bo m cb, .int .i64 p] wx fun r w' => ∃ xo xc, r = .returned (.tuple #[.slice xo m xc, .bool true]) ∧ Ns w' xo m xc SL ∧ Ext wx w' from fun wx h => (CR0.out wx h).mono fun _ _ ⟨_, h2, h3⟩ => by
                  obtain ⟨xo, xc, e1, e2⟩ := h2 hls
                  rw [hSL] at e2
                  exact ⟨xo, xc, e1, e2, h3⟩)
                clear CS0 CR0 hls hSL
                by_cases h0 : 0 < m
                · obtain ⟨b, off, ri, ci, rfl, hfm⟩ := HFM.out h0
                  have hm0 : (0 : Int) < (m : Int) := by omega
                  have HFC := Lib.hid hfm
                  clear HFM hfm h0
                  go_wp2_with fail
                  refine (CRK.out _ HX0.out).mono ?_
                  rintro e q25 ⟨rfl, hq25⟩
                  have HX25 := Lib.hid (HX0.out.trans hq25)
                  clear hq25
                  go_wp2_with fail
                  refine (CDT.out _ HX25.out).mono ?_
                  rintro e q26 ⟨rfl, hq26⟩
                  have HX26 := Lib.hid (HX25.out.trans hq26)
                  clear hq26
                  go_wp2_with fail
                  refine (CKR.out _ HX26.out).mono ?_
                  rintro e q27 ⟨vo, vk, vc, rfl, hns, hq27⟩
                  have HX27 := Lib.hid (HX26.out.trans hq27)
                  have HKN := Lib.hid hns
                  have HKW := Lib.hid (show ∀ wx, Ext q27 wx → Ns wx vo vk vc KL from fun wx h => hns.below h)
                  clear hns
                  clear hq27
                  have HKQ := Lib.hid (Ext.refl q27)
                  go_wp2_with fail
                  refine (CSV.out _ HX27.out).mono ?_
                  rintro e q28 ⟨xo, xc, rfl, hns, hq28⟩
                  have HX28 := Lib.hid (HX27.out.trans hq28)
                  have HXW := Lib.hid (show ∀ wx, Ext q28 wx → Ns wx xo m xc SL from fun wx h => hns.below h)
                  clear hns
                  have HKQ' := Lib.hid (HKQ.out.trans hq28)
                  clear hq28
                  have HXQ := Lib.hid (Ext.refl q28)
                  go_wp2_with fail
                  refine (CLS.out _ HX28.out).mono ?_
                  rintro e q29 ⟨rfl, hq29⟩
                  have HX29 := Lib.hid (HX28.out.trans hq29)
                  have HXQ' := Lib.hid (HXQ.out.trans hq29)
                  have HKQ'' := Lib.hid (HKQ'.out.trans hq29)
                  clear hq29
                  go_wp2_with fail
                  refine (CIS.out _ HX29.out).mono ?_
                  rintro e q30 ⟨rfl, hq30⟩
                  have HX30 := Lib.hid (HX29.out.trans hq30)
                  have HXQ'' := Lib.hid (HXQ'.out.trans hq30)
                  have HKQ''' := Lib.hid (HKQ''.out.trans hq30)
                  clear hq30
                  go_wp2_with fail
                  refine (CCK.out _ HX30.out).mono ?_
                  rintro e q31 ⟨rfl, hq31⟩
                  have HX31 := Lib.hid (HX30.out.trans hq31)
                  have HXQ''' := Lib.hid (HXQ''.out.trans hq31)
                  have HKQ'''' := Lib.hid (HKQ'''.out.trans hq31)
                  clear hq31
                  go_wp2_with fail
                  refine (CRR.out _ HX31.out).mono ?_
                  rintro e q32 ⟨rfl, hq32⟩
                  have HX32 := Lib.hid (HX31.out.trans hq32)
                  have HXQ'''' := Lib.hid (HXQ'''.out.trans hq32)
                  have HKQ''''' := Lib.hid (HKQ''''.out.trans hq32)
                  clear hq32
                  go_wp2_with fail
                  refine (CKK.out _ HX32.out).mono ?_
                  rintro e q33 ⟨zo, zk, zc, rfl, hns2, hq33⟩
                  have HX33 := Lib.hid (HX32.out.trans hq33)
                  have HZN := Lib.hid hns2
                  clear hns2
                  have HXQ''''' := Lib.hid (HXQ''''.out.trans hq33)
                  have HKQ'''''' := Lib.hid (HKQ'''''.out.trans hq33)
                  clear hq33
                  go_wp2_with fail
                  refine (ints_any vo zo vk zk vc zc KL KL _ (HKW.out _ HKQ''''''.out) HZN.out (by rw [← HKN.out.len]; exact HKL.out)).mono ?_
                  rintro e q34 ⟨he, hq34⟩
                  have HX34 := Lib.hid (HX33.out.trans hq34)
                  obtain rfl : e = .returned (.bool true) := by rw [he]; simp
                  clear he
                  have fc := HFC.out _ HX34.out
                  have HXQ'''''' := Lib.hid (HXQ'''''.out.trans hq34)
                  have HKQ''''''' := Lib.hid (HKQ''''''.out.trans hq34)
                  clear hq34
                  go_wp2_with fail
                  refine (CRD.out _ HX34.out).mono ?_
                  rintro e q35 ⟨rfl, hq35⟩
                  have HX35 := Lib.hid (HX34.out.trans hq35)
                  have HXQ''''''' := Lib.hid (HXQ''''''.out.trans hq35)
                  have HKQ'''''''' := Lib.hid (HKQ'''''''.out.trans hq35)
                  clear hq35
                  go_wp2_with fail
                  refine (CRS.out _ HX35.out).mono ?_
                  rintro e q36 ⟨yo, yc, rfl, hns3, hq36⟩
                  have HX36 := Lib.hid (HX35.out.trans hq36)
                  have HYN := Lib.hid hns3
                  clear hns3
                  have HXQ'''''''' := Lib.hid (HXQ'''''''.out.trans hq36)
                  have HKQ''''''''' := Lib.hid (HKQ''''''''.out.trans hq36)
                  clear hq36
                  go_wp2_with fail
                  refine (ints_any xo yo m m xc yc SL SL _ (HXW.out _ HXQ''''''''.out) HYN.out (by omega)).mono ?_
                  rintro e q37 ⟨he, hq37⟩
                  have HX37 := Lib.hid (HX36.out.trans hq37)
                  obtain rfl : e = .returned (.bool true) := by rw [he]; simp
                  clear he
                  have HXQ''''''''' := Lib.hid (HXQ''''''''.out.trans hq37)
                  have HKQ'''''''''' := Lib.hid (HKQ'''''''''.out.trans hq37)
                  clear hq37
                  go_wp2_with fail
                  refine (HAW.out _ HX37.out).mono ?_
                  rintro e wa ⟨rfl, hwa⟩
                  have HEA := Lib.hid (HEV.out.trans (HX37.out.trans hwa))
                  clear hwa
                  go_wp2
                  go_ret
                  exact ⟨rfl, HEA.out⟩
                · have hm0 : ¬ (0 : Int) < (m : Int) := by omega
                  clear HFM h0
                  go_wp2_with fail
                  refine (CRK.out _ HX0.out).mono ?_
                  rintro e q38 ⟨rfl, hq38⟩
                  have HX38 := Lib.hid (HX0.out.trans hq38)
                  clear hq38
                  go_wp2_with fail
                  refine (CDT.out _ HX38.out).mono ?_
                  rintro e q39 ⟨rfl, hq39⟩
                  have HX39 := Lib.hid (HX38.out.trans hq39)
                  clear hq39
                  go_wp2_with fail
                  refine (CKR.out _ HX39.out).mono ?_
                  rintro e q40 ⟨vo, vk, vc, rfl, hns, hq40⟩
                  have HX40 := Lib.hid (HX39.out.trans hq40)
                  have HKN := Lib.hid hns
                  have HKW := Lib.hid (show ∀ wx, Ext q40 wx → Ns wx vo vk vc KL from fun wx h => hns.below h)
                  clear hns
                  clear hq40
                  have HKQ := Lib.hid (Ext.refl q40)
                  go_wp2_with fail
                  refine (CSV.out _ HX40.out).mono ?_
                  rintro e q41 ⟨xo, xc, rfl, hns, hq41⟩
                  have HX41 := Lib.hid (HX40.out.trans hq41)
                  have HXW := Lib.hid (show ∀ wx, Ext q41 wx → Ns wx xo m xc SL from fun wx h => hns.below h)
                  clear hns
                  have HKQ' := Lib.hid (HKQ.out.trans hq41)
                  clear hq41
                  have HXQ := Lib.hid (Ext.refl q41)
                  go_wp2_with fail
                  refine (CLS.out _ HX41.out).mono ?_
                  rintro e q42 ⟨rfl, hq42⟩
                  have HX42 := Lib.hid (HX41.out.trans hq42)
                  have HXQ' := Lib.hid (HXQ.out.trans hq42)
                  have HKQ'' := Lib.hid (HKQ'.out.trans hq42)
                  clear hq42
                  go_wp2_with fail
                  refine (CIS.out _ HX42.out).mono ?_
                  rintro e q43 ⟨rfl, hq43⟩
                  have HX43 := Lib.hid (HX42.out.trans hq43)
                  have HXQ'' := Lib.hid (HXQ'.out.trans hq43)
                  have HKQ''' := Lib.hid (HKQ''.out.trans hq43)
                  clear hq43
                  go_wp2_with fail
                  refine (CCK.out _ HX43.out).mono ?_
                  rintro e q44 ⟨rfl, hq44⟩
                  have HX44 := Lib.hid (HX43.out.trans hq44)
                  have HXQ''' := Lib.hid (HXQ''.out.trans hq44)
                  have HKQ'''' := Lib.hid (HKQ'''.out.trans hq44)
                  clear hq44
                  go_wp2_with fail
                  refine (CRR.out _ HX44.out).mono ?_
                  rintro e q45 ⟨rfl, hq45⟩
                  have HX45 := Lib.hid (HX44.out.trans hq45)
                  have HXQ'''' := Lib.hid (HXQ'''.out.trans hq45)
                  have HKQ''''' := Lib.hid (HKQ''''.out.trans hq45)
                  clear hq45
                  go_wp2_with fail
                  refine (CKK.out _ HX45.out).mono ?_
                  rintro e q46 ⟨zo, zk, zc, rfl, hns2, hq46⟩
                  have HX46 := Lib.hid (HX45.out.trans hq46)
                  have HZN := Lib.hid hns2
                  clear hns2
                  have HXQ''''' := Lib.hid (HXQ''''.out.trans hq46)
                  have HKQ'''''' := Lib.hid (HKQ'''''.out.trans hq46)
                  clear hq46
                  go_wp2_with fail
                  refine (ints_any vo zo vk zk vc zc KL KL _ (HKW.out _ HKQ''''''.out) HZN.out (by rw [← HKN.out.len]; exact HKL.out)).mono ?_
                  rintro e q47 ⟨he, hq47⟩
                  have HX47 := Lib.hid (HX46.out.trans hq47)
                  obtain rfl : e = .returned (.bool true) := by rw [he]; simp
                  clear he
                  have HXQ'''''' := Lib.hid (HXQ'''''.out.trans hq47)
                  have HKQ''''''' := Lib.hid (HKQ''''''.out.trans hq47)
                  clear hq47
                  go_wp2_with fail
                  refine (CRD.out _ HX47.out).mono ?_
                  rintro e q48 ⟨rfl, hq48⟩
                  have HX48 := Lib.hid (HX47.out.trans hq48)
                  have HXQ''''''' := Lib.hid (HXQ''''''.out.trans hq48)
                  have HKQ'''''''' := Lib.hid (HKQ'''''''.out.trans hq48)
                  clear hq48
                  go_wp2_with fail
                  refine (CRS.out _ HX48.out).mono ?_
                  rintro e q49 ⟨yo, yc, rfl, hns3, hq49⟩
                  have HX49 := Lib.hid (HX48.out.trans hq49)
                  have HYN := Lib.hid hns3
                  clear hns3
                  have HXQ'''''''' := Lib.hid (HXQ'''''''.out.trans hq49)
                  have HKQ''''''''' := Lib.hid (HKQ''''''''.out.trans hq49)
                  clear hq49
                  go_wp2_with fail
                  refine (ints_any xo yo m m xc yc SL SL _ (HXW.out _ HXQ''''''''.out) HYN.out (by omega)).mono ?_
                  rintro e q50 ⟨he, hq50⟩
                  have HX50 := Lib.hid (HX49.out.trans hq50)
                  obtain rfl : e = .returned (.bool true) := by rw [he]; simp
                  clear he
                  have HXQ''''''''' := Lib.hid (HXQ''''''''.out.trans hq50)
                  have HKQ'''''''''' := Lib.hid (HKQ'''''''''.out.trans hq50)
                  clear hq50
                  go_wp2_with fail
                  refine (HAW.out _ HX50.out).mono ?_
                  rintro e wa ⟨rfl, hwa⟩
                  have HEA := Lib.hid (HEV.out.trans (HX50.out.trans hwa))
                  clear hwa
                  go_wp2
                  go_ret
                  exact ⟨rfl, HEA.out⟩
            · have CSV := Lib.hid (fun wx (h : Ext w4 wx) => solve_len lo co c lc m cc M p wx (HL.out.below h) (HTV.out.below h) hp hrow hc (by omega) hmn)
              subst hcn
              have hmb : ((m : Int) == (c : Int)) = false := by apply beq_eq_false_iff_ne.2; omega
              have hmb2 : ((m : Int) != (c : Int)) = true := by simp only [bne, hmb]; rfl
              clear hdd hc hS hR hok hos hpr hrow hall hp hmn
              by_cases h0 : 0 < c
              · obtain ⟨b, off, ri, ci, rfl, hfm⟩ := HFM.out h0
                have hm0 : (0 : Int) < (c : Int) := by omega
                have HFC := Lib.hid hfm
                clear HFM hfm h0
                go_wp2_with fail
                refine (CRK.out _ HX0.out).mono ?_
                rintro e q51 ⟨rfl, hq51⟩
                have HX51 := Lib.hid (HX0.out.trans hq51)
                clear hq51
                go_wp2_with fail
                refine (CDT.out _ HX51.out).mono ?_
                rintro e q52 ⟨rfl, hq52⟩
                have HX52 := Lib.hid (HX51.out.trans hq52)
                clear hq52
                go_wp2_with fail
                refine (CKR.out _ HX52.out).mono ?_
                rintro e q53 ⟨vo, vk, vc, rfl, hns, hq53⟩
                have HX53 := Lib.hid (HX52.out.trans hq53)
                have HKN := Lib.hid hns
                have HKW := Lib.hid (show ∀ wx, Ext q53 wx → Ns wx vo vk vc KL from fun wx h => hns.below h)
                clear hns
                clear hq53
                have HKQ := Lib.hid (Ext.refl q53)
                go_wp2_with fail
                refine (CSV.out _ HX53.out).mono ?_
                rintro e q54 ⟨rfl, hq54⟩
                have HX54 := Lib.hid (HX53.out.trans hq54)
                have HKQ' := Lib.hid (HKQ.out.trans hq54)
                clear hq54
                go_wp2_with fail
                refine (CLS.out _ HX54.out).mono ?_
                rintro e q55 ⟨rfl, hq55⟩
                have HX55 := Lib.hid (HX54.out.trans hq55)
                have HKQ'' := Lib.hid (HKQ'.out.trans hq55)
                clear hq55
                go_wp2_with fail
                refine (CIS.out _ HX55.out).mono ?_
                rintro e q56 ⟨rfl, hq56⟩
                have HX56 := Lib.hid (HX55.out.trans hq56)
                have HKQ''' := Lib.hid (HKQ''.out.trans hq56)
                clear hq56
                go_wp2_with fail
                refine (CCK.out _ HX56.out).mono ?_
                rintro e q57 ⟨rfl, hq57⟩
                have HX57 := Lib.hid (HX56.out.trans hq57)
                have HKQ'''' := Lib.hid (HKQ'''.out.trans hq57)
                clear hq57
                go_wp2_with fail
                refine (CRR.out _ HX57.out).mono ?_
                rintro e q58 ⟨rfl, hq58⟩
                have HX58 := Lib.hid (HX57.out.trans hq58)
                have HKQ''''' := Lib.hid (HKQ''''.out.trans hq58)
                clear hq58
                go_wp2_with fail
                refine (CKK.out _ HX58.out).mono ?_
                rintro e q59 ⟨zo, zk, zc, rfl, hns2, hq59⟩
                have HX59 := Lib.hid (HX58.out.trans hq59)
                have HZN := Lib.hid hns2
                clear hns2
                have HKQ'''''' := Lib.hid (HKQ'''''.out.trans hq59)
                clear hq59
                go_wp2_with fail
                refine (ints_any vo zo vk zk vc zc KL KL _ (HKW.out _ HKQ''''''.out) HZN.out (by rw [← HKN.out.len]; exact HKL.out)).mono ?_
                rintro e q60 ⟨he, hq60⟩
                have HX60 := Lib.hid (HX59.out.trans hq60)
                obtain rfl : e = .returned (.bool true) := by rw [he]; simp
                clear he
                have fc := HFC.out _ HX60.out
                have HKQ''''''' := Lib.hid (HKQ''''''.out.trans hq60)
                clear hq60
                go_wp2_with fail
                refine (CRD.out _ HX60.out).mono ?_
                rintro e q61 ⟨rfl, hq61⟩
                have HX61 := Lib.hid (HX60.out.trans hq61)
                have HKQ'''''''' := Lib.hid (HKQ'''''''.out.trans hq61)
                clear hq61
                go_wp2_with fail
                refine (HAW.out _ HX61.out).mono ?_
                rintro e wa ⟨rfl, hwa⟩
                have HEA := Lib.hid (HEV.out.trans (HX61.out.trans hwa))
                clear hwa
                go_wp2
                go_ret
                exact ⟨rfl, HEA.out⟩
              · have hm0 : ¬ (0 : Int) < (c : Int) := by omega
                clear HFM h0
                go_wp2_with fail
                refine (CRK.out _ HX0.out).mono ?_
                rintro e q62 ⟨rfl, hq62⟩
                have HX62 := Lib.hid (HX0.out.trans hq62)
                clear hq62
                go_wp2_with fail
                refine (CDT.out _ HX62.out).mono ?_
                rintro e q63 ⟨rfl, hq63⟩
                have HX63 := Lib.hid (HX62.out.trans hq63)
                clear hq63
                go_wp2_with fail
                refine (CKR.out _ HX63.out).mono ?_
                rintro e q64 ⟨vo, vk, vc, rfl, hns, hq64⟩
                have HX64 := Lib.hid (HX63.out.trans hq64)
                have HKN := Lib.hid hns
                have HKW := Lib.hid (show ∀ wx, Ext q64 wx → Ns wx vo vk vc KL from fun wx h => hns.below h)
                clear hns
                clear hq64
                have HKQ := Lib.hid (Ext.refl q64)
                go_wp2_with fail
                refine (CSV.out _ HX64.out).mono ?_
                rintro e q65 ⟨rfl, hq65⟩
                have HX65 := Lib.hid (HX64.out.trans hq65)
                have HKQ' := Lib.hid (HKQ.out.trans hq65)
                clear hq65
                go_wp2_with fail
                refine (CLS.out _ HX65.out).mono ?_
                rintro e q66 ⟨rfl, hq66⟩
                have HX66 := Lib.hid (HX65.out.trans hq66)
                have HKQ'' := Lib.hid (HKQ'.out.trans hq66)
                clear hq66
                go_wp2_with fail
                refine (CIS.out _ HX66.out).mono ?_
                rintro e q67 ⟨rfl, hq67⟩
                have HX67 := Lib.hid (HX66.out.trans hq67)
                have HKQ''' := Lib.hid (HKQ''.out.trans hq67)
                clear hq67
                go_wp2_with fail
                refine (CCK.out _ HX67.out).mono ?_
                rintro e q68 ⟨rfl, hq68⟩
                have HX68 := Lib.hid (HX67.out.trans hq68)
                have HKQ'''' := Lib.hid (HKQ'''.out.trans hq68)
                clear hq68
                go_wp2_with fail
                refine (CRR.out _ HX68.out).mono ?_
                rintro e q69 ⟨rfl, hq69⟩
                have HX69 := Lib.hid (HX68.out.trans hq69)
                have HKQ''''' := Lib.hid (HKQ''''.out.trans hq69)
                clear hq69
                go_wp2_with fail
                refine (CKK.out _ HX69.out).mono ?_
                rintro e q70 ⟨zo, zk, zc, rfl, hns2, hq70⟩
                have HX70 := Lib.hid (HX69.out.trans hq70)
                have HZN := Lib.hid hns2
                clear hns2
                have HKQ'''''' := Lib.hid (HKQ'''''.out.trans hq70)
                clear hq70
                go_wp2_with fail
                refine (ints_any vo zo vk zk vc zc KL KL _ (HKW.out _ HKQ''''''.out) HZN.out (by rw [← HKN.out.len]; exact HKL.out)).mono ?_
                rintro e q71 ⟨he, hq71⟩
                have HX71 := Lib.hid (HX70.out.trans hq71)
                obtain rfl : e = .returned (.bool true) := by rw [he]; simp
                clear he
                have HKQ''''''' := Lib.hid (HKQ''''''.out.trans hq71)
                clear hq71
                go_wp2_with fail
                refine (CRD.out _ HX71.out).mono ?_
                rintro e q72 ⟨rfl, hq72⟩
                have HX72 := Lib.hid (HX71.out.trans hq72)
                have HKQ'''''''' := Lib.hid (HKQ'''''''.out.trans hq72)
                clear hq72
                go_wp2_with fail
                refine (HAW.out _ HX72.out).mono ?_
                rintro e wa ⟨rfl, hwa⟩
                have HEA := Lib.hid (HEV.out.trans (HX72.out.trans hwa))
                clear hwa
                go_wp2
                go_ret
                exact ⟨rfl, HEA.out⟩
          · have CDT := Lib.hid (fun wx (h : Ext w4 wx) => det_bad lo n lc p 5 wx (by decide) (square_shape lo n lc c M p wx (HL.out.below h) (HTV.out.below h) hp hrow hc (by omega) (by omega) hcn))
            have CSV := Lib.hid (fun wx (h : Ext w4 wx) => solve_bad lo co n lc m cc p 5 wx (by decide) (square_shape lo n lc c M p wx (HL.out.below h) (HTV.out.below h) hp hrow hc (by omega) (by omega) hcn))
            have h0 : 0 < n := by
              rcases Nat.eq_zero_or_pos n with h | h
              · exfalso
                have h1 := HMV.out.len
                rw [h] at h1
                rw [List.eq_nil_of_length_eq_zero h1] at hc
                exact hcn (by rw [h, ← hc]; rfl)
              · exact h
            obtain ⟨b, off, e, hcell⟩ := HMV.out.rows h0
            obtain ⟨ri, ci, h1, _⟩ := hcell 0 h0
            rw [hrow 0 h0, Nat.add_zero] at h1
            subst e
            have HFC := Lib.hid (show ∀ wx, Ext w4 wx → wx.cell? ⟨b, off, none⟩ = some (.slice ri c ci) from fun wx h => (h.cell (lt_of_cell h1)).trans h1)
            have hm0 : (0 : Int) < (n : Int) := by omega
            have hcb : ((c : Int) == (n : Int)) = false := by apply beq_eq_false_iff_ne.2; omega
            have hcb2 : ((c : Int) != (n : Int)) = true := by simp only [bne, hcb]; rfl
            clear hc hS hR hok hos hpr hrow hall hp hcell h1 h0 hcn
            go_wp2_with fail
            refine (CRK.out _ HX0.out).mono ?_
            rintro e q73 ⟨rfl, hq73⟩
            have HX73 := Lib.hid (HX0.out.trans hq73)
            clear hq73
            go_wp2_with fail
            refine (CDT.out _ HX73.out).mono ?_
            rintro e q74 ⟨rfl, hq74⟩
            have HX74 := Lib.hid (HX73.out.trans hq74)
            clear hq74
            go_wp2_with fail
            refine (CKR.out _ HX74.out).mono ?_
            rintro e q75 ⟨vo, vk, vc, rfl, hns, hq75⟩
            have HX75 := Lib.hid (HX74.out.trans hq75)
            have HKN := Lib.hid hns
            have HKW := Lib.hid (show ∀ wx, Ext q75 wx → Ns wx vo vk vc KL from fun wx h => hns.below h)
            clear hns
            clear hq75
            have HKQ := Lib.hid (Ext.refl q75)
            go_wp2_with fail
            refine (CSV.out _ HX75.out).mono ?_
            rintro e q76 ⟨rfl, hq76⟩
            have HX76 := Lib.hid (HX75.out.trans hq76)
            have HKQ' := Lib.hid (HKQ.out.trans hq76)
            clear hq76
            go_wp2_with fail
            refine (CLS.out _ HX76.out).mono ?_
            rintro e q77 ⟨rfl, hq77⟩
            have HX77 := Lib.hid (HX76.out.trans hq77)
            have HKQ'' := Lib.hid (HKQ'.out.trans hq77)
            clear hq77
            go_wp2_with fail
            refine (CIS.out _ HX77.out).mono ?_
            rintro e q78 ⟨rfl, hq78⟩
            have HX78 := Lib.hid (HX77.out.trans hq78)
            have HKQ''' := Lib.hid (HKQ''.out.trans hq78)
            clear hq78
            go_wp2_with fail
            refine (CCK.out _ HX78.out).mono ?_
            rintro e q79 ⟨rfl, hq79⟩
            have HX79 := Lib.hid (HX78.out.trans hq79)
            have HKQ'''' := Lib.hid (HKQ'''.out.trans hq79)
            clear hq79
            go_wp2_with fail
            refine (CRR.out _ HX79.out).mono ?_
            rintro e q80 ⟨rfl, hq80⟩
            have HX80 := Lib.hid (HX79.out.trans hq80)
            have HKQ''''' := Lib.hid (HKQ''''.out.trans hq80)
            clear hq80
            go_wp2_with fail
            refine (CKK.out _ HX80.out).mono ?_
            rintro e q81 ⟨zo, zk, zc, rfl, hns2, hq81⟩
            have HX81 := Lib.hid (HX80.out.trans hq81)
            have HZN := Lib.hid hns2
            clear hns2
            have HKQ'''''' := Lib.hid (HKQ'''''.out.trans hq81)
            clear hq81
            go_wp2_with fail
            refine (ints_any vo zo vk zk vc zc KL KL _ (HKW.out _ HKQ''''''.out) HZN.out (by rw [← HKN.out.len]; exact HKL.out)).mono ?_
            rintro e q82 ⟨he, hq82⟩
            have HX82 := Lib.hid (HX81.out.trans hq82)
            obtain rfl : e = .returned (.bool true) := by rw [he]; simp
            clear he
            have fc := HFC.out _ HX82.out
            have HKQ''''''' := Lib.hid (HKQ''''''.out.trans hq82)
            clear hq82
            go_wp2_with fail
            refine (HAW.out _ HX82.out).mono ?_
            rintro e wa ⟨rfl, hwa⟩
            have HEA := Lib.hid (HEV.out.trans (HX82.out.trans hwa))
            clear hwa
            go_wp2
            go_ret
            exact ⟨rfl, HEA.out⟩
        · have CRK := Lib.hid (fun wx (h : Ext w4 wx) => rank_badE lo n lc M p E wx (HL.out.below h) (HTV.out.below h) (by omega) HME.out hE0)
          have CDT := Lib.hid (fun wx (h : Ext w4 wx) => det_bad lo n lc p E wx hE0 (square_bad lo n lc M p E wx (HL.out.below h) (HTV.out.below h) (by omega) HME.out hE0))
          have CKR := Lib.hid (fun wx (h : Ext w4 wx) => kernel_badE lo n lc M p E wx (HL.out.below h) (HTV.out.below h) (by omega) HME.out hE0)
          have CSV := Lib.hid (fun wx (h : Ext w4 wx) => solve_bad lo co n lc m cc p E wx hE0 (square_bad lo n lc M p E wx (HL.out.below h) (HTV.out.below h) (by omega) HME.out hE0))
          have hEb : (E != 0) = true := by simpa using hE0
          clear hE0
          go_wp2_with fail
          refine (CRK.out _ HX0.out).mono ?_
          rintro e q83 ⟨rfl, hq83⟩
          have HX83 := Lib.hid (HX0.out.trans hq83)
          clear hq83
          go_wp2_with fail
          refine (CDT.out _ HX83.out).mono ?_
          rintro e q84 ⟨rfl, hq84⟩
          have HX84 := Lib.hid (HX83.out.trans hq84)
          clear hq84
          go_wp2_with fail
          refine (CKR.out _ HX84.out).mono ?_
          rintro e q85 ⟨rfl, hq85⟩
          have HX85 := Lib.hid (HX84.out.trans hq85)
          clear hq85
          go_wp2_with fail
          refine (CSV.out _ HX85.out).mono ?_
          rintro e q86 ⟨rfl, hq86⟩
          have HX86 := Lib.hid (HX85.out.trans hq86)
          clear hq86
          go_wp2_with fail
          refine (CLS.out _ HX86.out).mono ?_
          rintro e q87 ⟨rfl, hq87⟩
          have HX87 := Lib.hid (HX86.out.trans hq87)
          clear hq87
          go_wp2_with fail
          refine (CIS.out _ HX87.out).mono ?_
          rintro e q88 ⟨rfl, hq88⟩
          have HX88 := Lib.hid (HX87.out.trans hq88)
          clear hq88
          go_wp2_with fail
          refine (CCK.out _ HX88.out).mono ?_
          rintro e q89 ⟨rfl, hq89⟩
          have HX89 := Lib.hid (HX88.out.trans hq89)
          clear hq89
          go_wp2_with fail
          refine (HAW.out _ HX89.out).mono ?_
          rintro e wa ⟨rfl, hwa⟩
          have HEA := Lib.hid (HEV.out.trans (HX89.out.trans hwa))
          clear hwa
          go_wp2
          go_ret
          exact ⟨rfl, HEA.out⟩
      · rw [decide_eq_false hmod]
        rintro e w2 ⟨rfl, rfl⟩
        clear hs hmod
        go_wp2_with fail
        refine (HAW0.out _ (Ext.refl _)).mono ?_
        rintro e wa ⟨rfl, hwa⟩
        have HEA := Lib.hid hwa
        clear hwa
        go_wp2
        go_ret
        exact ⟨rfl, HEA.out⟩
  · rw [decide_eq_false hs] at CSM
    go_wp2_with fail
    refine CSM.out.mono ?_
    rintro e w1 ⟨rfl, rfl⟩
    clear CSM hs
    go_wp2_with fail
    refine (HAW0.out _ (Ext.refl _)).mono ?_
    rintro e wa ⟨rfl, hwa⟩
    have HEA := Lib.hid hwa
    clear hwa
    go_wp2
    go_ret
    exact ⟨rfl, HEA.out⟩
end Go.Proofs.YthicfkeiggcjjaaGreatDoor
