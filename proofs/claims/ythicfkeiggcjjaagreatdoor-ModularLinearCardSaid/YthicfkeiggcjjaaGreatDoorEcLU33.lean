import Derived.Test.YthicfkeiggcjjaaGreatDoorEcLU31
import Derived.Test.YthicfkeiggcjjaaGreatDoorEcLU32
import Derived.Deep.CutRange
import Derived.StillTailTactics
namespace Go.Proofs.YthicfkeiggcjjaaGreatDoor
open Go Go.RowKit

/-- the vector of the kernel when k pivots are done -/
def vecL (f : Nat → Int) (c R k : Nat) : List Int := (List.range c).map fun x => if x < min k R then f x else if x = R then 1 else 0
theorem vecL_len (f : Nat → Int) (c R k : Nat) : (vecL f c R k).length = c := by simp [vecL]
theorem vecL_get {f : Nat → Int} {c R k x : Nat} (h : x < c) : (vecL f c R k).getD x 0 = if x < min k R then f x else if x = R then 1 else 0 := by
  simp [vecL, List.getD, h]
theorem vecL_zero {f : Nat → Int} {c R : Nat} (h : R < c) : (List.replicate c (0 : Int)).set R 1 = vecL f c R 0 := by
  refine list_same 0 (by simp [vecL_len]) fun x hx => ?_
  have hx' : x < c := by simpa using hx
  rw [vecL_get hx', if_neg (by omega)]
  by_cases hR : x = R
  · subst hR; rw [if_pos rfl, set_at (by simpa using hx')]
  · rw [if_neg hR, set_off (Ne.symm hR)]; simp [List.getD, hx']
theorem vecL_small {f : Nat → Int} {c R k : Nat} (h : k < R) (hc : k < c) : (vecL f c R k).set k (f k) = vecL f c R (k + 1) := by
  refine list_same 0 (by simp [vecL_len]) fun x hx => ?_
  have hx' : x < c := by simpa [vecL_len] using hx
  rw [vecL_get hx']
  by_cases hk : x = k
  · subst hk
    rw [set_at (by rw [vecL_len]; exact hx'), if_pos (by omega)]
  · rw [set_off (Ne.symm hk), vecL_get hx']
    by_cases h1 : x < min k R
    · rw [if_pos h1, if_pos (show x < min (k + 1) R by omega)]
    · rw [if_neg h1, if_neg (show ¬ x < min (k + 1) R by omega)]
theorem vecL_great {f : Nat → Int} {c R k q : Nat} (h : R ≤ k) (hq : R < q) (hc : q < c) : (vecL f c R k).set q 0 = vecL f c R (k + 1) := by
  refine list_same 0 (by simp [vecL_len]) fun x hx => ?_
  have hx' : x < c := by simpa [vecL_len] using hx
  rw [vecL_get hx']
  by_cases hk : x = q
  · subst hk
    rw [set_at (by rw [vecL_len]; exact hx'), if_neg (by omega), if_neg (by omega)]
  · rw [set_off (Ne.symm hk), vecL_get hx', show min k R = R by omega, show min (k + 1) R = R by omega]
theorem vecL_ker {p : Int} {c R k : Nat} {S : Ech} (h : R ≤ k) (hc : R ≠ c) : vecL (fun x => -((S.M.getD x []).getD R 0) % p) c R k = kerL p c S R := by
  unfold vecL kerL
  rw [if_neg hc, show min k R = R by omega]

set_option maxRecDepth 100000 in
set_option maxHeartbeats 16000000 in
theorem refKernel_any (ao : Option Addr) (n cap c R : Nat) (M : List (List Int)) (p : Int) (S : Ech) (w : World) (hm : Nss w ao n cap M) (hrow : ∀ i, i < n → (M.getD i []).length = c) (hw : widthM M = c) (hn : n ≤ 200) (hc : c ≤ 200) (hp : 2 ≤ p) (hp2 : p ≤ 2147483647) (hS : reduceE p c 0 ⟨resM p M, [], 1⟩ = S) (hR : freeL S.L S.L.length 0 = R) :
    Calls Tryz.prog 19 #[.slice ao n cap, .int .i64 p] w fun r w' => ∃ vo vk vc, r = .returned (.slice vo vk vc) ∧ Ns w' vo vk vc (kerL p c S R) ∧ Ext w w' := by
  have CE := Lib.hid (refEch_all ao n cap c M p S w hm hrow hw hn (by omega) hp hp2 hS)
  have CW := Lib.hid (fun wx (h : Ext w wx) => refCols_any ao n cap M wx (hm.below h))
  rw [hw] at CW
  have hok := res_ok (p := p) (n := n) (c := c) hp hm.len hrow
  have hasc : Asc c S.L := by
    have := Asc.reduce (p := p) c 0 ⟨resM p M, [], 1⟩ (Asc.nil 0)
    rwa [hS, Nat.zero_add] at this
  have HAS := Lib.hid hasc
  have HOS := Lib.hid (show EOk p n c S by rw [← hS]; exact hok.reduce hp c 0 _)
  have HFU := Lib.hid (hasc.full hR)
  have HRL := Lib.hid (free_le hS hR)
  have HZR := Lib.hid (fun h => free_zero hp hok hS hR h)
  have HSP := Lib.hid (show ∀ x, x < R → S.L.getD x 0 = (x : Int) from fun x hx => freeL_spec S.L S.L.length 0 x (Nat.zero_le _) (by rw [hR]; exact hx))
  have HBY := Lib.hid (fun k (h1 : R ≤ k) (h2 : k < S.L.length) => hasc.beyond hR h1 h2)
  have HR := Lib.hid hR
  obtain ⟨OI, hmi, hvi⟩ := make_ints c (by omega)
  have HVI := Lib.hid (rowB_zeros hvi)
  have CMOD := Lib.hid (fun (a : Int) (wx : World) => refMod_any a p wx (by omega) (by omega))
  have HLC := Lib.hid (show S.L.length ≤ c ∧ S.L.length ≤ n from ⟨hasc.len, HOS.out.pl⟩)
  clear hm hrow hw hS hR hvi hok hasc
  go_enter Tryz.func19, Tryz.ntmps19
  go_wp2_with fail
  refine CE.out.mono ?_
  rintro r w1 ⟨bo, cn, qo, qc, d, rfl, hns, -, hmat, hE⟩
  have HE1 := Lib.hid hE
  have HQ1 := Lib.hid hns
  have HMT := Lib.hid hmat
  clear CE hE hns hmat
  obtain ⟨L, hL⟩ : ∃ L, S.L = L := ⟨_, rfl⟩
  obtain ⟨m, hmm⟩ : ∃ m, S.L.length = m := ⟨_, rfl⟩
  have HL := Lib.hid hL
  have HMM := Lib.hid hmm
  rw [hmm] at HQ1 HR HFU HRL HBY HLC ⊢
  rw [hL] at HQ1 HR HSP HBY HAS
  clear hL hmm
  go_wp2_with fail
  refine (CW.out _ HE1.out).mono ?_
  rintro r w2 ⟨rfl, rfl⟩
  by_cases hkc : m = c
  · subst hkc
    have hRm : R = m := HFU.out.1 rfl
    have HK := Lib.hid (show kerL p m S R = [] from by unfold kerL; rw [if_pos hRm])
    go_wp2
    go_ret
    exact ⟨none, 0, 0, rfl, by rw [HK.out]; exact ⟨rfl, Nat.le_refl _, fun h => absurd h (by simp)⟩, HE1.out⟩
  · have hmb : ((m : Int) == (c : Int)) = false := by apply beq_eq_false_iff_ne.2; omega
    have hRc : R < c := by
      have h1 := HRL.out.1
      rcases Nat.lt_or_ge R c with h | h
      · exact h
      · exact absurd (HFU.out.2 (by omega)) hkc
    obtain ⟨b, rs, rfl, hM1, hrl⟩ := HMT.out (by omega)
    have HM1 := Lib.hid hM1
    have HRSL := Lib.hid hrl
    have HZ := Lib.hid (HZR.out hRc)
    have hmn : m ≤ n := HLC.out.2
    have hRm : R ≤ m := HRL.out.2
    clear HMT HZR hM1 hrl
    rename World => w1
    go_upto_block 0 with fail
    go_cut [8] from 23 to 36 (fun fv wx => fv = .int .i64 (R : Int) ∧ w1 = wx)
    case first =>
      go_wp2
      go_loopw [8] (fun iv wx => ∃ i : Nat, i ≤ m ∧ iv = .int .i64 (i : Int) ∧ Hid (freeL L (m - i) i = R) ∧ w1 = wx) (fun iv _ => m - (intOf iv).toNat)
      case atStart => exact ⟨0, Nat.zero_le _, rfl, HR, rfl⟩
      case round =>
        clear HR
        obtain ⟨i, hi, rfl, HR, rfl⟩ := hrel
        by_cases hlt : i < m
        · obtain ⟨bq, oq, rfl, hcq⟩ := HQ1.out.cells (by omega)
          have k1 := hcq i hlt
          obtain ⟨x, hx⟩ : ∃ x, L.getD i 0 = x := ⟨_, rfl⟩
          rw [hx] at k1
          have HX := Lib.hid hx
          have hii : (i : Int) < (m : Int) := by omega
          clear hcq hx
          by_cases hxi : x = (i : Int)
          · subst hxi
            have HR2 := Lib.hid (show freeL L (m - (i + 1)) (i + 1) = R from by
              rw [← HR.out, show m - i = (m - (i + 1)) + 1 by omega, freeL_go HX.out])
            go_wp2
            go_roundw
            case rel => exact ⟨i + 1, by omega, by go_num, HR2, trivial⟩
            case measure => simp [intOf]; omega
          · have hRi : R = i := by
              rw [← HR.out, show m - i = (m - (i + 1)) + 1 by omega, freeL_at (by rw [HX.out]; exact hxi)]
            have hxb : (x == (i : Int)) = false := beq_eq_false_iff_ne.2 hxi
            subst hRi
            clear HR
            go_wp2
            go_meet
            exact ⟨rfl, rfl⟩
        · have hRi : R = i := by
            have := HR.out
            rw [show m - i = 0 by omega] at this
            exact this.symm
          subst hRi
          have hni : ¬ (R : Int) < (m : Int) := by omega
          clear HR
          go_wp2
          go_meet
          exact ⟨rfl, rfl⟩
    case rest =>
      obtain ⟨rfl, rfl⟩ := hcut
      clear HR
      go_wp2_with fail
      refine (CW.out _ HE1.out).mono ?_
      rintro r w2 ⟨rfl, rfl⟩
      clear CW
      have hEo : Ext w1 (w1.alloc OI) := (Below.refl _ _).alloc (Nat.le_refl _) _
      have hrow := HVI.out w1
      obtain ⟨g, hg⟩ : ∃ g, w1.heap.size = g := ⟨_, rfl⟩
      rw [hg] at hrow
      have q0 := hrow.c (j := R) (by simpa using hRc)
      have q1 := hrow.f R
      have q0 : (w1.alloc OI).cell? ⟨g, R, none⟩ = some (.int .i64 0) := by rw [q0]; simp [List.getD, hRc]
      have hset := hrow.set (j := R) (by simpa using hRc) 1
      have ho := only_set1 (w1.alloc OI) g R (.int .i64 1)
      have HG := Lib.hid (show w.heap.size ≤ g from by rw [← hg]; exact Below.size HE1.out)
      have HE4 := Lib.hid (show Ext w ((w1.alloc OI).setCell ⟨g, R, none⟩ (.int .i64 1)) from Below.trans (HE1.out.trans hEo) (ho.below HG.out))
      have hne : ∀ i, i < rs.length → (rs.getD i (0, 0)).1 ≠ g := fun i hi => by have := (HM1.out.row i hi).1.lt; omega
      have hM4 := (HM1.out.below hEo).only ho (by have := HM1.out.rows.lt; omega) hne
      have HNE := Lib.hid (And.intro hne (show b ≠ g by have := HM1.out.rows.lt; omega))
      have hw1s : Below g w1 ((w1.alloc OI).setCell ⟨g, R, none⟩ (.int .i64 1)) := by
        have h8 : Below g w1 (w1.alloc OI) := by rw [← hg]; exact hEo
        exact h8.trans (ho.below (Nat.le_refl g))
      have HQ4 := Lib.hid (HQ1.out.below (show Ext w1 _ by unfold Ext; rw [hg]; exact hw1s))
      have HQG := Lib.hid (show ∀ bq oq, qo = some ⟨bq, oq, none⟩ → 0 < m → bq < g from fun bq oq e h0 => by
        obtain ⟨b2, o2, e2, hc2⟩ := HQ1.out.cells h0
        rw [e] at e2
        cases e2
        have := lt_of_cell (hc2 0 h0)
        rw [← hg]; exact this)
      have HM4 := Lib.hid hM4
      obtain ⟨f, hf⟩ : ∃ f : Nat → Int, f = fun x => -((S.M.getD x []).getD R 0) % p := ⟨_, rfl⟩
      have HF := Lib.hid hf
      have HROW := Lib.hid (show RowB _ g (vecL f c R 0) from by rw [← vecL_zero hRc]; exact hset)
      have HK := Lib.hid (show vecL f c R m = kerL p c S R from by rw [hf]; exact vecL_ker hRm (by omega))
      have hRi : (R : Int) < (c : Int) := by omega
      clear hrow hset ho hEo hne hM4 hf hw1s HM1 HQ1
      go_upto_region 8 with fail
      clear hg hmi
      go_wp2
      clear q0 q1
      generalize (w1.alloc OI).setCell ⟨g, R, none⟩ (.int .i64 1) = W at *
      go_loopw [10] (fun kv wr => ∃ k : Nat, k ≤ m ∧ kv = .int .i64 (k : Int) ∧ Mat wr b rs c S.M ∧ RowB wr g (vecL f c R k) ∧ Hid (Ns wr qo m qc L) ∧ Hid (Ext w wr))
        (fun kv _ => m - (intOf kv).toNat)
      case atStart => exact ⟨0, Nat.zero_le _, rfl, HM4.out, HROW.out, HQ4, HE4⟩
      case round =>
        clear HM4 HROW HQ4 HE4
        obtain ⟨k, hk, rfl, hM, hrow, HQ, HEX⟩ := hrel
        by_cases hlt : k < m
        · have hkm : (k : Int) < (m : Int) := by omega
          have hkn : k < n := by omega
          have hkr : k < rs.length := by rw [HRSL.out]; exact hkn
          obtain ⟨bq, oq, hqe, hcq⟩ := HQ.out.cells (by omega)
          have hbq := HQG.out bq oq hqe (by omega)
          subst hqe
          have k1 := hcq k hlt
          have hkl : k < L.length := by rw [← HL.out, HMM.out]; exact hlt
          have hqlo := HAS.out.lo k hkl
          have hqhi := HAS.out.hi k hkl
          obtain ⟨q, hq⟩ := Int.eq_ofNat_of_zero_le hqlo
          rw [hq] at k1 hqhi
          have hqc : q < c := by omega
          have hqc2 : (q : Int) < (c : Int) := by omega
          have k0 := hM.slice hkr
          have hri := hM.row k hkr
          have c1 := hri.1.c (j := R) (by rw [hri.2]; exact hRc)
          have hbd := HOS.out.res.at (i := k) (j := R) (by rw [HOS.out.len]; exact hkn) (by rw [hri.2]; exact hRc)
          obtain ⟨v, hv⟩ : ∃ v, (S.M.getD k []).getD R 0 = v := ⟨_, rfl⟩
          rw [hv] at c1 hbd
          obtain ⟨y, hy⟩ : ∃ y, -v % p = y := ⟨_, rfl⟩
          have hstep : (vecL f c R k).set q y = vecL f c R (k + 1) := by
            rcases Nat.lt_or_ge k R with h | h
            · have h1 := HSP.out k h
              rw [hq] at h1
              obtain rfl : q = k := by omega
              have h2 : f q = y := by rw [HF.out]; simp only; rw [hv, hy]
              rw [← h2]
              exact vecL_small h hqc
            · have h1 := HBY.out k h hlt
              rw [hq] at h1
              have h2 : v = 0 := by rw [← hv]; exact HZ.out k h (by rw [HOS.out.len]; exact hkn)
              have h3 : y = 0 := by rw [← hy, h2]; simp
              rw [h3]
              exact vecL_great h (by omega) hqc
          have q0 := hrow.c (j := q) (by rw [vecL_len]; exact hqc)
          have q1 := hrow.f q
          have hset := hrow.set (j := q) (by rw [vecL_len]; exact hqc) y
          rw [hstep] at hset
          have ho := only_set1 wr g q (.int .i64 y)
          have HMN := Lib.hid (hM.only ho HNE.out.2 HNE.out.1)
          have HRN := Lib.hid hset
          have HEN := Lib.hid (show Ext w (wr.setCell ⟨g, q, none⟩ (.int .i64 y)) from Below.trans HEX.out (ho.below HG.out))
          have HQN := Lib.hid (show Ns (wr.setCell ⟨g, q, none⟩ (.int .i64 y)) (some ⟨bq, oq, none⟩) m qc L from ⟨HQ.out.len, HQ.out.cap, fun h0 => ⟨bq, oq, rfl, fun j hj => by
            rw [← hcq j hj]
            exact World.cell?_of_block (ho.block bq (by omega))⟩⟩)
          obtain ⟨u0, hu0⟩ : ∃ u0, (vecL f c R k).getD q 0 = u0 := ⟨_, rfl⟩
          rw [hu0] at q0
          obtain ⟨gi, hgi⟩ : ∃ gi, (rs.getD k (0, 0)).1 = gi := ⟨_, rfl⟩
          obtain ⟨ci, hci⟩ : ∃ ci, (rs.getD k (0, 0)).2 = ci := ⟨_, rfl⟩
          rw [hgi, hci] at k0
          rw [hgi] at c1
          have CM := Lib.hid (CMOD.out (-v))
          rw [hy] at CM
          have hwn : IntKind.i64.wrap (-v) = -v := IntWalk.i64_in _ (by omega)
          have hkni : (k : Int) < (n : Int) := by omega
          have hq0 : (0 : Int) ≤ (q : Int) := by omega
          clear hcq hbq hkl hqlo hqhi hq hri hbd hv hy hstep hset ho hu0 hgi hci hM hrow hkr
          go_upto_region 12 with fail
          go_still_tail 16, (by kernel_rfl)
          still_call ((CM.out _).mono (fun _ _ h => ⟨h.1, h.2.symm⟩))
          repeat still_step
          refine wpStill_nil ?_
          change wpList _ _ _ _ _ wr.drew
          go_wp2
          go_roundw
          case rel => first | exact ⟨k + 1, by omega, by go_num, HMN.out, HRN.out, HQN, HEN⟩ | exact ⟨k + 1, by omega, by go_num, HMN.out.below (by repeat (first | exact Below.refl _ _ | refine Below.drew ?_)), HRN.out.below (by repeat (first | exact Below.refl _ _ | refine Below.drew ?_)), Lib.hid (HQN.out.below (by repeat (first | exact Below.refl _ _ | refine Below.drew ?_))), Lib.hid (by repeat (first | exact HEN.out | refine Below.drew ?_))⟩
          case measure => simp [intOf]; omega
        · obtain rfl : m = k := by omega
          have HNS := Lib.hid (show Ns wr (some ⟨g, 0, none⟩) c c (kerL p c S R) from by
            rw [← HK.out]
            refine ⟨vecL_len _ _ _ _, Nat.le_refl _, fun _ => ⟨g, 0, rfl, fun j hj => ?_⟩⟩
            rw [Nat.zero_add]
            exact hrow.c (by rw [vecL_len]; exact hj))
          clear hM hrow
          go_wp2
          go_ret
          exact ⟨_, _, _, rfl, HNS.out, HEX.out⟩
end Go.Proofs.YthicfkeiggcjjaaGreatDoor
