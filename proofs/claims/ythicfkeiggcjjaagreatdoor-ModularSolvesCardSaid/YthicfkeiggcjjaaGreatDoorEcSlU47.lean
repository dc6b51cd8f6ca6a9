import Derived.Test.YthicfkeiggcjjaaGreatDoorEcSlU22
import Derived.Test.YthicfkeiggcjjaaGreatDoorEcSlU30
import Derived.Test.YthicfkeiggcjjaaGreatDoorEcSlU34
import Derived.Test.YthicfkeiggcjjaaGreatDoorEcSlU35
import Derived.Test.YthicfkeiggcjjaaGreatDoorEcSlU46
import Derived.Test.YthicfkeiggcjjaaGreatDoorEcSlU21
namespace Go.Proofs.YthicfkeiggcjjaaGreatDoor
open Go Go.RowKit

theorem Nss.take {w : World} {ao : Option Addr} {n cap q : Nat} {M : List (List Int)} (h : Nss w ao n cap M) (hq : q ≤ n) : Nss w ao q cap (M.take q) := by
  refine ⟨by rw [List.length_take, h.len]; omega, Nat.le_trans hq h.cap, fun h0 => ?_⟩
  obtain ⟨b, off, e, hc⟩ := h.rows (by omega)
  refine ⟨b, off, e, fun i hi => ?_⟩
  have e2 : (M.take q).getD i [] = M.getD i [] := by simp [List.getD, hi]
  rw [e2]
  exact hc i (by omega)
theorem rhs_all {p : Int} {bs : List Int} {n mb i : Nat} (hl : bs.length = mb) (hi : i ≤ n) (h : n ≤ i ∨ mb ≤ i) : mixL (fun x => bs.getD x 0 % p) (List.replicate n 0) 0 i = (List.range n).map fun x => bs.getD x 0 % p := by
  unfold mixL
  rw [List.length_replicate]
  refine List.map_congr_left fun x hx => ?_
  have hx' : x < n := by simpa using hx
  by_cases h1 : x < i
  · rw [if_pos h1]
  · rw [if_neg h1]
    have e : bs.getD x 0 = 0 := by simp [List.getD, show bs.length ≤ x by omega]
    rw [e, Int.zero_emod]
    simp [List.getD, hx']

set_option maxRecDepth 100000 in
set_option maxHeartbeats 16000000 in
theorem msolves_any (ao bo : Option Addr) (m1 ca mb cb : Nat) (l bs : List Int) (n0 cut0 p0 : Int) (w : World) (hl : Ns w ao m1 ca l) (hb : Ns w bo mb cb bs) (hT : Table64 w) (hP : Pow10 w) :
    Calls Tryz.prog 5 #[.slice ao m1 ca, .slice bo mb cb, .int .i64 n0, .int .i64 cut0, .int .i64 p0] w fun e w' => e = .returned (.bool true) ∧ Ext w w' := by
  have HL := Lib.hid hl
  have HB := Lib.hid hb
  have HT := Lib.hid hT
  have HAW := Lib.hid (show ∀ wx, Ext w wx → Calls Tryz.prog 8 #[] wx fun e w' => e = .returned (.bool true) ∧ Ext wx w' from fun wx h => mawake_any wx (hT.below h) (hP.below h))
  clear hl hb hT hP
  go_enter Tryz.func5, Tryz.ntmps5
  by_cases h1 : (25 : Int) < (m1 : Int)
  · go_wp2_with fail
    refine (HAW.out _ (Ext.refl _)).mono ?_
    rintro e wa ⟨rfl, hwa⟩
    have HEA := Lib.hid hwa
    clear hwa
    go_wp2
    go_ret
    exact ⟨rfl, HEA.out⟩
  · by_cases h2 : (25 : Int) < (mb : Int)
    · go_wp2_with fail
      refine (HAW.out _ (Ext.refl _)).mono ?_
      rintro e wa ⟨rfl, hwa⟩
      have HEA := Lib.hid hwa
      clear hwa
      go_wp2
      go_ret
      exact ⟨rfl, HEA.out⟩
    · have hm1 : m1 ≤ 25 := by omega
      have hmb : mb ≤ 25 := by omega
      go_wp2_with fail
      refine (prime_any p0 _).mono ?_
      rintro e w1 ⟨p, rfl, hG, hE⟩
      obtain ⟨hp, hpr⟩ := hG
      obtain ⟨p2, p3⟩ := mr_bounds hp
      have HE1 := Lib.hid hE
      clear hE h1 h2
      go_wp2_with fail
      refine (place_any n0 5 _ (by omega) (by omega)).mono ?_
      rintro e w2 ⟨j, hj, rfl, rfl⟩
      obtain ⟨n, hn⟩ : ∃ n, j + 1 = n := ⟨_, rfl⟩
      have hnw : IntKind.i64.wrap (1 + (j : Int)) = (n : Int) := by rw [IntWalk.i64_in _ (by omega)]; omega
      have hn0 : 0 < n := by omega
      have hn5 : n ≤ 5 := by omega
      clear hj hn
      go_wp2_with fail
      refine (square_any ao n m1 ca l _ (HL.out.below HE1.out) (by omega) (by omega)).mono ?_
      rintro e w3 ⟨so, sc, rfl, hns, hE⟩
      have HE3 := Lib.hid (HE1.out.trans hE)
      have HSQ := Lib.hid hns
      clear hns hE HE1 hnw
      go_wp2_with fail
      refine (place_any cut0 n _ (by omega) (by omega)).mono ?_
      rintro e w4 ⟨k, hk, rfl, rfl⟩
      obtain ⟨q, hq⟩ : ∃ q, k + 1 = q := ⟨_, rfl⟩
      have hqw : IntKind.i64.wrap (1 + (k : Int)) = (q : Int) := by rw [IntWalk.i64_in _ (by omega)]; omega
      have hq0 : 0 < q := by omega
      have hqn : q ≤ n := by omega
      have hsc := HSQ.out.cap
      obtain ⟨a, off, rfl, _⟩ := HSQ.out.rows hn0
      obtain ⟨Mr, hMr⟩ : ∃ Mr, (sqM l n).take q = Mr := ⟨_, rfl⟩
      have hrow : ∀ i, i < q → (Mr.getD i []).length = n := fun i hi => by
        rw [← hMr]
        have e2 : ((sqM l n).take q).getD i [] = (sqM l n).getD i [] := by simp [List.getD, hi]
        rw [e2, sq_row (by omega), sqRow_len]
      have hw : widthM Mr = n := hrow 0 hq0
      have HNS := Lib.hid (show Nss w3 (some ⟨a, off, none⟩) q sc Mr by rw [← hMr]; exact HSQ.out.take hqn)
      have hMl := HNS.out.len
      obtain ⟨S, hS⟩ : ∃ S, reduceE p n 0 ⟨resM p Mr, [], 1⟩ = S := ⟨_, rfl⟩
      obtain ⟨R, hR⟩ : ∃ R, freeL S.L S.L.length 0 = R := ⟨_, rfl⟩
      have hok := res_ok (p := p) (n := q) (c := n) p2 hMl hrow
      have hos : EOk p q n S := by rw [← hS]; exact hok.reduce p2 n 0 _
      have hasc : Asc n S.L := by
        have := Asc.reduce (p := p) n 0 ⟨resM p Mr, [], 1⟩ (Asc.nil 0)
        rwa [hS, Nat.zero_add] at this
      have hfull := hasc.full hR
      have hRn := (free_le hS hR).1
      have hLn := hasc.len
      have hLq := hos.pl
      have HTV := Lib.hid (HT.out.below HE3.out)
      have CKR := Lib.hid (kernel_yes (some ⟨a, off, none⟩) q sc n R Mr S p w3 HNS.out HTV.out hp hrow hw (by omega) (by omega) hS hR)
      have CRK := Lib.hid (fun wx (h : Ext w3 wx) => rank_yes (some ⟨a, off, none⟩) q sc n Mr S p wx (HNS.out.below h) (HTV.out.below h) hp hrow hw (by omega) (by omega) hS)
      have HKP := Lib.hid (fun (h : R < n) i (hi : i < q) => ker_prod hpr p2 hMl hrow hS hR h hi)
      obtain ⟨rk, hrk⟩ : ∃ rk, S.L.length = rk := ⟨_, rfl⟩
      rw [hrk] at CRK hfull hLn hLq
      obtain ⟨OI, hmi, hvi⟩ := make_ints n (by omega)
      have HVI := Lib.hid (rowB_zeros hvi)
      obtain ⟨fr, hfr⟩ : ∃ fr : Nat → Int, fr = fun x => bs.getD x 0 % p := ⟨_, rfl⟩
      obtain ⟨RL, hRL⟩ : ∃ RL : List Int, RL = (List.range n).map fun x => bs.getD x 0 % p := ⟨_, rfl⟩
      have HFR := Lib.hid hfr
      have HRL := Lib.hid (show ∀ i, i ≤ n → n ≤ i ∨ mb ≤ i → mixL fr (List.replicate n 0) 0 i = RL from fun i h1 h2 => by rw [hfr, hRL]; exact rhs_all HB.out.len h1 h2)
      have HRLL := Lib.hid (show RL.length = n by rw [hRL]; simp)
      have HRLm := Lib.hid (show ∀ i, i < n → RL.getD i 0 % p = RL.getD i 0 from fun i hi => by
        have e2 : RL.getD i 0 = bs.getD i 0 % p := by rw [hRL]; exact getD_range hi
        rw [e2, Int.emod_emod])
      have CMOD := Lib.hid (fun (a : Int) (wx : World) => refMod_any a p wx (by omega) (by omega))
      have hqs : (q : Int) ≤ (sc : Int) := by omega
      have HROW := Lib.hid hrow
      have HSOLV := Lib.hid (show q = n → ∃ S2 : Ech, S2.L.length = rk ∧ (∀ wx g, Ext w wx → Ns wx (some ⟨g, 0, none⟩) n n RL → Ext w3 wx → Calls Tryz.prog 14 #[.slice (some ⟨a, off, none⟩) n sc, .slice (some ⟨g, 0, none⟩) n n, .int .i64 p] wx (SolveOut n S2 wx)) ∧ (rk = n → prodM p Mr (solL n S2) n n = RL) from fun e => by
        subst e
        refine ⟨reduceE p q 0 ⟨resM p (wideM q Mr RL), [], 1⟩, ?_, fun wx g hwx hr hx => ?_, fun hrn => ?_⟩
        · rw [← hrk, ← hS]
          exact congrArg List.length (wide_reduce RL hMl hrow).symm
        · exact solve_yes _ _ q sc q Mr RL _ p wx (HNS.out.below hx) hr (HT.out.below hwx) hp hrow hw (by omega) rfl
        · refine list_same 0 (by rw [prodM_len, HRLL.out]) fun i hi => ?_
          rw [prodM_len] at hi
          rw [prodM_get hi, sol_prod hpr p2 hrow rfl ((congrArg List.length (wide_reduce RL hMl hrow).symm).trans (by rw [hS, hrk, hrn])) hi]
          exact HRLm.out i hi)
      clear hS hR hok hos hasc hvi hfr hRL hrow hpr hp hk hq hMr hw
      go_wp2_with fail
      refine CKR.out.mono ?_
      rintro e w5 ⟨vo, vk, vc, rfl, hns, hE⟩
      have HVN := Lib.hid hns
      have hvl := hns.len
      have HE5 := Lib.hid hE
      clear hns hE CKR hqw
      go_wp2_with fail
      refine (CRK.out _ HE5.out).mono ?_
      rintro e w6 ⟨rfl, hE⟩
      have HE6' := Lib.hid (HE5.out.trans hE)
      have HVN6 := Lib.hid (HVN.out.below hE)
      have HEW6 := Lib.hid (HE3.out.trans HE6'.out)
      clear hE CRK HE5 HVN
      by_cases hRf : R = n
      · have hrkn : rk = n := hfull.2 hRf
        have hqe : q = n := by omega
        have hv0 : vk = 0 := by rw [← hvl]; unfold kerL; rw [if_pos hRf]; rfl
        obtain ⟨S2, h2a, h2b, h2c⟩ := HSOLV.out hqe
        have HPRD := Lib.hid (h2c hrkn)
        have CSV0 := Lib.hid h2b
        have hlsn : ¬ S2.L.length < n := by omega
        subst hv0
        subst hqe
        subst hrkn
        clear HSOLV h2a h2b h2c hfull hRf HKP HVN6 hvl
        have hqq : ¬ (rk : Int) < (rk : Int) := by omega
        have CSV := Lib.hid (fun wx g (h : Ext w6 wx) (hr : Ns wx (some ⟨g, 0, none⟩) rk rk RL) => CSV0.out wx g (HEW6.out.trans h) hr (HE6'.out.trans h))
        have hEo : ∀ u : World, Ext u (u.alloc OI) := fun u => (Below.refl _ _).alloc (Nat.le_refl _) _
        have HEO := Lib.hid hEo
        rename World => V
        have hrow := HVI.out V
        obtain ⟨g, hg⟩ : ∃ g, V.heap.size = g := ⟨_, rfl⟩
        rw [hg] at hrow
        have HG := Lib.hid (show w.heap.size ≤ g from by rw [← hg]; exact Below.size HEW6.out)
        have HGV := Lib.hid hg
        have HE6 := Lib.hid (hEo V)
        have HROW0 := Lib.hid hrow
        clear hrow hEo
        go_upto_region 28 with fail
        clear hg hmi
        go_upto_block 4 with fail
        go_cut [21] from 127 to 146 (fun _ wx => Hid (RowB wx g RL) ∧ Hid (Ext V wx))
        case first =>
          go_wp2
          generalize V.alloc OI = W at *
          go_loopw [21] (fun iv wr => ∃ i : Nat, i ≤ rk ∧ i ≤ mb ∧ iv = .int .i64 (i : Int) ∧ RowB wr g (mixL fr (List.replicate rk 0) 0 i) ∧ Hid (Ext V wr))
            (fun iv _ => rk - (intOf iv).toNat)
          case atStart => exact ⟨0, Nat.zero_le _, Nat.zero_le _, rfl, by rw [mix_zero]; exact HROW0.out, HE6⟩
          case round =>
            clear HROW0 HE6
            obtain ⟨i, hi, him, rfl, hrow, HEX⟩ := hrel
            by_cases hin : i < rk
            · have hini : (i : Int) < (rk : Int) := by omega
              by_cases him2 : i < mb
              · have himi : (i : Int) < (mb : Int) := by omega
                obtain ⟨bb, ob, rfl, hcb⟩ := (HB.out.below (HEW6.out.trans HEX.out)).cells (by omega)
                have k1 := hcb i him2
                obtain ⟨v, hv⟩ : ∃ v, bs.getD i 0 = v := ⟨_, rfl⟩
                rw [hv] at k1
                obtain ⟨y, hy⟩ : ∃ y, v % p = y := ⟨_, rfl⟩
                have CM := Lib.hid (CMOD.out v)
                rw [hy] at CM
                have hfy : fr i = y := by rw [HFR.out]; simp only; rw [hv, hy]
                have q0 := hrow.c (j := i) (by rw [mix_len]; simpa using hin)
                have q1 := hrow.f i
                have hset := hrow.set (j := i) (by rw [mix_len]; simpa using hin) (fr i)
                rw [mix_set fr _ 0 (by simpa using hin)] at hset
                rw [hfy] at hset
                have ho := only_set1 wr g i (.int .i64 y)
                have HRN := Lib.hid hset
                have HEN := Lib.hid (show Ext V (wr.setCell ⟨g, i, none⟩ (.int .i64 y)) from Below.trans HEX.out (ho.below (Nat.le_of_eq HGV.out)))
                clear hcb hv hy hfy hset ho hrow
                go_wp2_with fail
                refine (CM.out _).mono ?_
                rintro e w9 ⟨rfl, rfl⟩
                go_wp2
                go_roundw
                case rel => exact ⟨i + 1, by omega, by omega, by go_num, HRN.out, HEN⟩
                case measure => simp [intOf]; omega
              · have himi : ¬ (i : Int) < (mb : Int) := by omega
                have HRF := Lib.hid (show RowB wr g RL from by rw [← HRL.out i hi (Or.inr (by omega))]; exact hrow)
                clear hrow
                go_wp2
                go_meet
                exact ⟨HRF, HEX⟩
            · have hini : ¬ (i : Int) < (rk : Int) := by omega
              have HRF := Lib.hid (show RowB wr g RL from by rw [← HRL.out i hi (Or.inl (by omega))]; exact hrow)
              clear hrow
              go_wp2
              go_meet
              exact ⟨HRF, HEX⟩
        case rest =>
          obtain ⟨HRF, HE7V⟩ := hcut
          have HE7 := Lib.hid (HEW6.out.trans HE7V.out)
          clear HROW0 HE6
          have HRN := Lib.hid (show Ns wc (some ⟨g, 0, none⟩) rk rk RL from ⟨HRLL.out, Nat.le_refl _, fun _ => ⟨g, 0, rfl, fun j hj => by rw [Nat.zero_add]; exact HRF.out.c (by rw [HRLL.out]; exact hj)⟩⟩)
          go_wp2_with fail
          refine (CSV.out _ g HE7V.out HRN.out).mono ?_
          rintro e w8 ⟨-, h2, hE⟩
          obtain ⟨xo, xc, rfl, hns⟩ := h2 hlsn
          have HXN := Lib.hid hns
          have HE8V := Lib.hid hE
          have HE8 := Lib.hid (HE7.out.trans hE)
          have HR8 := Lib.hid (HRN.out.below hE)
          clear hns hE h2 CSV
          go_wp2_with fail
          refine (product_any (some ⟨a, off, none⟩) xo rk rk sc xc Mr (solL rk S2) p _ (HNS.out.below (HE6'.out.trans (HE7V.out.trans HE8V.out))) HROW.out HXN.out (by omega) (by omega) p2 p3).mono ?_
          rintro e w9 ⟨zo, zc, rfl, hns, hE⟩
          have HZN := Lib.hid hns
          have HE9 := Lib.hid (HE8.out.trans hE)
          have HR9 := Lib.hid (HR8.out.below hE)
          clear hns hE
          rw [HPRD.out] at HZN
          go_wp2_with fail
          refine (ints_same zo (some ⟨g, 0, none⟩) rk rk zc rk RL _ HZN.out HR9.out (by omega)).mono ?_
          rintro e w10 ⟨rfl, hE⟩
          have HE10 := Lib.hid (HE9.out.trans hE)
          clear hE
          go_wp2_with fail
          refine (HAW.out _ HE10.out).mono ?_
          rintro e wa ⟨rfl, hwa⟩
          have HEA := Lib.hid (HE10.out.trans hwa)
          clear hwa
          go_wp2
          go_ret
          exact ⟨rfl, HEA.out⟩
      · have hrkn : rk < n := by
          rcases Nat.lt_or_ge rk n with h | h
          · exact h
          · exact absurd (hfull.1 (by omega)) hRf
        have hRn2 : R < n := by omega
        have hkl : (kerL p n S R).length = n := by unfold kerL; rw [if_neg hRf]; simp
        have hvn : vk = n := by rw [← hvl]; exact hkl
        subst hvn
        have HK1 := Lib.hid (show (kerL p vk S R).getD R 0 = 1 by rw [kerL_at hRn2 hRn2, if_neg (by omega), if_pos rfl])
        have HKZ := Lib.hid (show ∀ i, i < q → (prodM p Mr (kerL p vk S R) q vk).getD i 0 = 0 from fun i hi => by rw [prodM_get hi]; exact HKP.out hRn2 i hi)
        obtain ⟨KL, hKL⟩ : ∃ KL, kerL p vk S R = KL := ⟨_, rfl⟩
        rw [hKL] at HVN6 HK1 HKZ
        have hrki : (rk : Int) < (vk : Int) := by omega
        have hn0i : (0 : Int) < (vk : Int) := by omega
        clear hKL hkl hvl hfull hRf HKP
        go_wp2_with fail
        refine (product_any (some ⟨a, off, none⟩) vo q vk sc vc Mr KL p _ (HNS.out.below HE6'.out) HROW.out HVN6.out (by omega) (by omega) p2 p3).mono ?_
        rintro e w7 ⟨zo, zc, rfl, hns, hE⟩
        have HZN := Lib.hid hns
        have HE7' := Lib.hid (HE6'.out.trans hE)
        have HVN7 := Lib.hid (HVN6.out.below hE)
        have HEW7 := Lib.hid (HEW6.out.trans hE)
        clear hns hE HVN6 HE6' HEW6
        rename World => w7
        go_wp2
        go_loopw [17, 18] (fun bv iv wr => ∃ (i : Nat) (b : Bool), i ≤ vk ∧ iv = .int .i64 (i : Int) ∧ bv = .bool b ∧ Hid (R < i → b = true) ∧ w7 = wr)
          (fun _ iv _ => vk - (intOf iv).toNat)
        case atStart => exact ⟨0, false, Nat.zero_le _, rfl, rfl, Lib.hid (fun h => absurd h (Nat.not_lt_zero _)), rfl⟩
        case round =>
          obtain ⟨i, b, hi, rfl, rfl, HBI, rfl⟩ := hrel
          by_cases hlt : i < vk
          · have hii : (i : Int) < (vk : Int) := by omega
            obtain ⟨bv, ov, rfl, hcv⟩ := HVN7.out.cells (by omega)
            have k1 := hcv i hlt
            obtain ⟨v, hv⟩ : ∃ v, KL.getD i 0 = v := ⟨_, rfl⟩
            rw [hv] at k1
            have HV := Lib.hid hv
            clear hcv hv
            cases b with
            | true =>
              go_wp2
              go_roundw
              case rel => exact ⟨i + 1, true, by omega, by go_num, rfl, Lib.hid (fun _ => rfl), trivial⟩
              case measure => simp [intOf]; omega
            | false =>
              have HBN := Lib.hid (show R < i + 1 → (v != 0) = true from fun h => by
                have h1 : ¬ R < i := fun h2 => absurd (HBI.out h2) (by simp)
                have h2 : R = i := by omega
                have h3 : v = 1 := by rw [← HV.out, ← h2]; exact HK1.out
                rw [h3]; rfl)
              obtain ⟨c2, hc2⟩ : ∃ c2, (v != 0) = c2 := ⟨_, rfl⟩
              rw [hc2] at HBN
              go_wp2
              go_roundw
              case rel => exact ⟨i + 1, c2, by omega, by go_num, by first | rfl | rw [hc2], HBN, trivial⟩
              case measure => simp [intOf]; omega
          · obtain rfl : vk = i := by omega
            obtain rfl : true = b := (HBI.out (by omega)).symm
            clear HBI
            go_wp2
            go_loopw [17, 19] (fun bv iv wr => ∃ i : Nat, i ≤ q ∧ iv = .int .i64 (i : Int) ∧ bv = .bool true ∧ w7 = wr)
              (fun _ iv _ => q - (intOf iv).toNat)
            case atStart => exact ⟨0, Nat.zero_le _, rfl, rfl, rfl⟩
            case round =>
              obtain ⟨i, hi, rfl, rfl, rfl⟩ := hrel
              by_cases hlt2 : i < q
              · have hii : (i : Int) < (q : Int) := by omega
                obtain ⟨bz, oz, rfl, hcz⟩ := HZN.out.cells (by omega)
                have k1 := hcz i hlt2
                rw [HKZ.out i hlt2] at k1
                clear hcz
                go_wp2
                go_roundw
                case rel => exact ⟨i + 1, by omega, by go_num, rfl, trivial⟩
                case measure => simp [intOf]; omega
              · obtain rfl : q = i := by omega
                by_cases hqe : q < vk
                · have hqi : (q : Int) < (vk : Int) := by omega
                  go_wp2_with fail
                  refine (HAW.out _ HEW7.out).mono ?_
                  rintro e wa ⟨rfl, hwa⟩
                  have HEA := Lib.hid (HEW7.out.trans hwa)
                  clear hwa
                  go_wp2
                  go_ret
                  exact ⟨rfl, HEA.out⟩
                · obtain ⟨S2, h2a, h2b, -⟩ := HSOLV.out (by omega)
                  have hqv : q = vk := by omega
                  have CSV0 := Lib.hid h2b
                  have hlsn : S2.L.length < vk := by omega
                  have hqi : ¬ (q : Int) < (vk : Int) := by omega
                  subst hqv
                  clear HSOLV h2a h2b hqe hlt hlt2
                  have CSV := Lib.hid (fun wx g (h : Ext w7 wx) (hr : Ns wx (some ⟨g, 0, none⟩) q q RL) => CSV0.out wx g (HEW7.out.trans h) hr (HE7'.out.trans h))
                  have hEo : ∀ u : World, Ext u (u.alloc OI) := fun u => (Below.refl _ _).alloc (Nat.le_refl _) _
                  have HEO := Lib.hid hEo
                  rename World => V
                  have hrow := HVI.out V
                  obtain ⟨g, hg⟩ : ∃ g, V.heap.size = g := ⟨_, rfl⟩
                  rw [hg] at hrow
                  have HG := Lib.hid (show w.heap.size ≤ g from by rw [← hg]; exact Below.size HEW7.out)
                  have HGV := Lib.hid hg
                  have HE6 := Lib.hid (hEo V)
                  have HROW0 := Lib.hid hrow
                  clear hrow hEo
                  go_upto_region 28 with fail
                  clear hg hmi
                  go_upto_block 4 with fail
                  go_cut [21] from 127 to 146 (fun _ wx => Hid (RowB wx g RL) ∧ Hid (Ext V wx))
                  case first =>
                    go_wp2
                    generalize V.alloc OI = W at *
                    go_loopw [21] (fun iv wr => ∃ i : Nat, i ≤ q ∧ i ≤ mb ∧ iv = .int .i64 (i : Int) ∧ RowB wr g (mixL fr (List.replicate q 0) 0 i) ∧ Hid (Ext V wr))
                      (fun iv _ => q - (intOf iv).toNat)
                    case atStart => exact ⟨0, Nat.zero_le _, Nat.zero_le _, rfl, by rw [mix_zero]; exact HROW0.out, HE6⟩
                    case round =>
                      clear HROW0 HE6
                      obtain ⟨i, hi, him, rfl, hrow, HEX⟩ := hrel
                      by_cases hin : i < q
                      · have hini : (i : Int) < (q : Int) := by omega
                        by_cases him2 : i < mb
                        · have himi : (i : Int) < (mb : Int) := by omega
                          obtain ⟨bb, ob, rfl, hcb⟩ := (HB.out.below (HEW7.out.trans HEX.out)).cells (by omega)
                          have k1 := hcb i him2
                          obtain ⟨v, hv⟩ : ∃ v, bs.getD i 0 = v := ⟨_, rfl⟩
                          rw [hv] at k1
                          obtain ⟨y, hy⟩ : ∃ y, v % p = y := ⟨_, rfl⟩
                          have CM := Lib.hid (CMOD.out v)
                          rw [hy] at CM
                          have hfy : fr i = y := by rw [HFR.out]; simp only; rw [hv, hy]
                          have q0 := hrow.c (j := i) (by rw [mix_len]; simpa using hin)
                          have q1 := hrow.f i
                          have hset := hrow.set (j := i) (by rw [mix_len]; simpa using hin) (fr i)
                          rw [mix_set fr _ 0 (by simpa using hin)] at hset
                          rw [hfy] at hset
                          have ho := only_set1 wr g i (.int .i64 y)
                          have HRN := Lib.hid hset
                          have HEN := Lib.hid (show Ext V (wr.setCell ⟨g, i, none⟩ (.int .i64 y)) from Below.trans HEX.out (ho.below (Nat.le_of_eq HGV.out)))
                          clear hcb hv hy hfy hset ho hrow
                          go_wp2_with fail
                          refine (CM.out _).mono ?_
                          rintro e w9 ⟨rfl, rfl⟩
                          go_wp2
                          go_roundw
                          case rel => exact ⟨i + 1, by omega, by omega, by go_num, HRN.out, HEN⟩
                          case measure => simp [intOf]; omega
                        · have himi : ¬ (i : Int) < (mb : Int) := by omega
                          have HRF := Lib.hid (show RowB wr g RL from by rw [← HRL.out i hi (Or.inr (by omega))]; exact hrow)
                          clear hrow
                          go_wp2
                          go_meet
                          exact ⟨HRF, HEX⟩
                      · have hini : ¬ (i : Int) < (q : Int) := by omega
                        have HRF := Lib.hid (show RowB wr g RL from by rw [← HRL.out i hi (Or.inl (by omega))]; exact hrow)
                        clear hrow
                        go_wp2
                        go_meet
                        exact ⟨HRF, HEX⟩
                  case rest =>
                    obtain ⟨HRF, HE7V⟩ := hcut
                    have HE7 := Lib.hid (HEW7.out.trans HE7V.out)
                    clear HROW0 HE6
                    have HRN := Lib.hid (show Ns wc (some ⟨g, 0, none⟩) q q RL from ⟨HRLL.out, Nat.le_refl _, fun _ => ⟨g, 0, rfl, fun j hj => by rw [Nat.zero_add]; exact HRF.out.c (by rw [HRLL.out]; exact hj)⟩⟩)
                    go_wp2_with fail
                    refine (CSV.out _ g HE7V.out HRN.out).mono ?_
                    rintro e w8 ⟨h1, -, hE⟩
                    obtain rfl := h1 hlsn
                    have HE8 := Lib.hid (HE7.out.trans hE)
                    clear hE h1 CSV
                    go_wp2_with fail
                    refine (HAW.out _ HE8.out).mono ?_
                    rintro e wa ⟨rfl, hwa⟩
                    have HEA := Lib.hid (HE8.out.trans hwa)
                    clear hwa
                    go_wp2
                    go_ret
                    exact ⟨rfl, HEA.out⟩
end Go.Proofs.YthicfkeiggcjjaaGreatDoor
