import Derived.Test.YthicfkeiggcjjaaGreatDoorEcSlU33
import Derived.Deep.CutRange
import Derived.StillTailTactics
import Derived.Test.YthicfkeiggcjjaaGreatDoorEcSlU28
namespace Go.Proofs.YthicfkeiggcjjaaGreatDoor
open Go Go.RowKit

def prodM (p : Int) (M : List (List Int)) (v : List Int) (n c : Nat) : List Int := (List.range n).map fun i => prodS p (M.getD i []) v c
theorem prodM_len (p : Int) (M : List (List Int)) (v : List Int) (n c : Nat) : (prodM p M v n c).length = n := by simp [prodM]
theorem prodM_get {p : Int} {M : List (List Int)} {v : List Int} {n c i : Nat} (h : i < n) : (prodM p M v n c).getD i 0 = prodS p (M.getD i []) v c := by simp [prodM, List.getD, h]
theorem prodM_take {p : Int} {M : List (List Int)} {v : List Int} {n c i : Nat} (h : i < n) : (prodM p M v n c).take (i + 1) = (prodM p M v n c).take i ++ [prodS p (M.getD i []) v c] := by
  rw [List.take_succ_eq_append_getElem (by rw [prodM_len]; exact h)]
  simp [prodM]
theorem sum_step {p s a b : Int} (hp : 2 ≤ p) (hp2 : p ≤ 2147483647) (h1 : 0 ≤ s) (h2 : s < p) (h3 : 0 ≤ a) (h4 : a < p) (h5 : 0 ≤ b) (h6 : b < p) :
    IntKind.i64.wrap (a * b) = a * b ∧ IntKind.i64.wrap (s + a * b) = s + a * b ∧ (s + a * b).tmod p = (s + a * b) % p ∧ 0 ≤ (s + a * b) % p ∧ (s + a * b) % p < p := by
  have a1 : 0 ≤ a * b := Int.mul_nonneg h3 h5
  have a2 : a * b ≤ 2147483647 * 2147483647 := Int.mul_le_mul (by omega) (by omega) h5 (by omega)
  exact ⟨IntWalk.i64_in _ (by omega), IntWalk.i64_in _ (by omega), Int.tmod_eq_emod_of_nonneg (by omega), Int.emod_nonneg _ (by omega), Int.emod_lt_of_pos _ (by omega)⟩

set_option maxRecDepth 100000 in
set_option maxHeartbeats 16000000 in
theorem product_any (ao vo : Option Addr) (n c ca cv : Nat) (M : List (List Int)) (v : List Int) (p : Int) (w : World) (hm : Nss w ao n ca M) (hrow : ∀ i, i < n → (M.getD i []).length = c) (hv : Ns w vo c cv v) (hn : n ≤ 1000) (hc : c ≤ 1000) (hp : 2 ≤ p) (hp2 : p ≤ 2147483647) :
    Calls Tryz.prog 26 #[.slice ao n ca, .slice vo c cv, .int .i64 p] w fun e w' => ∃ xo xc, e = .returned (.slice xo n xc) ∧ Ns w' xo n xc (prodM p M v n c) ∧ Ext w w' := by
  have HM := Lib.hid hm
  have HROW := Lib.hid hrow
  have HV := Lib.hid hv
  have CMOD := Lib.hid (fun (a : Int) (wx : World) => refMod_any a p wx (by omega) (by omega))
  obtain ⟨C, hCe⟩ : ∃ C, w.heap.size = C := ⟨_, rfl⟩
  have HEX := Lib.hid (show ∀ wx, Below C w wx → Ext w wx from fun wx h => by rw [← hCe] at h; exact h)
  have hC0 : C ≤ w.heap.size := by omega
  have hpne : ¬ p = 0 := by omega
  have hpb : (p == 0) = false := beq_eq_false_iff_ne.2 hpne
  clear hm hrow hv hCe
  go_enter Tryz.func26, Tryz.ntmps26
  go_wp2
  go_loopw [7, 8, 9, 10] (fun xv iv _ _ wr => ∃ i : Nat, i ≤ n ∧ iv = .int .i64 (i : Int) ∧ OZ wr C xv ((prodM p M v n c).take i) ∧ Hid (Below C w wr) ∧ C ≤ wr.heap.size)
    (fun _ iv _ _ _ => n - (intOf iv).toNat)
  case atStart => exact ⟨0, Nat.zero_le _, rfl, OZ.nil _ C, Lib.hid (Below.refl C w), hC0⟩
  case round =>
    obtain ⟨i, hi, rfl, hown, HB, hCs⟩ := hrel
    by_cases hlt : i < n
    · have hii : (i : Int) < (n : Int) := by omega
      obtain ⟨a, off, rfl, hc1⟩ := (HM.out.below (HEX.out _ HB.out)).rows (by omega)
      obtain ⟨ri, ci, h1, h2⟩ := hc1 i hlt
      obtain ⟨l, hl⟩ : ∃ l, M.getD i [] = l := ⟨_, rfl⟩
      have hrl := HROW.out i hlt
      rw [hl] at h1 h2 hrl
      rw [hrl] at h1 h2
      have HN := Lib.hid h2
      have HA := Lib.hid h1
      have HOWN := Lib.hid hown
      have hlp : ((prodM p M v n c).take i).length ≤ 1000000 := by rw [List.length_take, prodM_len]; omega
      have HNP := Lib.hid (show (prodM p M v n c).take (i + 1) = (prodM p M v n c).take i ++ [prodS p l v c] by rw [prodM_take hlt, hl])
      have HVW := Lib.hid (HV.out.below (HEX.out _ HB.out))
      clear hc1 h1 h2 hl hrl hown
      rename World => wr
      go_wp2
      go_loopw [9, 10] (fun sv jv wx => ∃ (j : Nat) (s : Int), j ≤ c ∧ jv = .int .i64 (j : Int) ∧ sv = .int .i64 s ∧ Hid (s = prodS p l v j) ∧ Hid (0 ≤ s ∧ s < p) ∧ Hid (Ext wr wx) ∧ Hid (Below C w wx) ∧ C ≤ wx.heap.size)
        (fun _ jv _ => c - (intOf jv).toNat)
      case atStart => exact ⟨0, 0, Nat.zero_le _, rfl, rfl, Lib.hid rfl, Lib.hid ⟨Int.le_refl _, by omega⟩, Lib.hid (Ext.refl _), HB, hCs⟩
      case round =>
        rename World => wx
        obtain ⟨j, s, hj, rfl, rfl, HS, HSR, HEW, HBW, hCx⟩ := hrel
        by_cases hjl : j < c
        · have hji : (j : Int) < (c : Int) := by omega
          have k0 := (HEW.out.cell (lt_of_cell HA.out)).trans HA.out
          obtain ⟨b1, o1, rfl, hcell1⟩ := (HN.out.below HEW.out).cells (by omega)
          obtain ⟨b2, o2, rfl, hcell2⟩ := (HVW.out.below HEW.out).cells (by omega)
          have k1 := hcell1 j hjl
          have k2 := hcell2 j hjl
          obtain ⟨x, hx⟩ : ∃ x, l.getD j 0 = x := ⟨_, rfl⟩
          obtain ⟨y, hy⟩ : ∃ y, v.getD j 0 = y := ⟨_, rfl⟩
          rw [hx] at k1
          rw [hy] at k2
          obtain ⟨x1, hx1⟩ : ∃ x1, x % p = x1 := ⟨_, rfl⟩
          obtain ⟨y1, hy1⟩ : ∃ y1, y % p = y1 := ⟨_, rfl⟩
          have CX := Lib.hid (CMOD.out x)
          have CY := Lib.hid (CMOD.out y)
          rw [hx1] at CX
          rw [hy1] at CY
          have bx : 0 ≤ x1 ∧ x1 < p := by rw [← hx1]; exact ⟨Int.emod_nonneg _ (by omega), Int.emod_lt_of_pos _ (by omega)⟩
          have by' : 0 ≤ y1 ∧ y1 < p := by rw [← hy1]; exact ⟨Int.emod_nonneg _ (by omega), Int.emod_lt_of_pos _ (by omega)⟩
          obtain ⟨s1, s2, s3, s4, s5⟩ := sum_step hp hp2 HSR.out.1 HSR.out.2 bx.1 bx.2 by'.1 by'.2
          obtain ⟨t1, ht1⟩ : ∃ t1, x1 * y1 = t1 := ⟨_, rfl⟩
          have s1b : IntKind.i64.wrap (x1 * y1) = t1 := by rw [← ht1]; exact s1
          rw [ht1] at s1 s2 s3 s4 s5
          obtain ⟨t2, ht2⟩ : ∃ t2, s + t1 = t2 := ⟨_, rfl⟩
          have s2b : IntKind.i64.wrap (s + t1) = t2 := by rw [← ht2]; exact s2
          rw [ht2] at s2 s3 s4 s5
          obtain ⟨z, hz⟩ : ∃ z, t2 % p = z := ⟨_, rfl⟩
          rw [hz] at s3 s4 s5
          have s6 : IntKind.i64.wrap z = z := IntWalk.i64_in _ (by omega)
          have s7 : IntKind.i64.wrap (t2.tmod p) = z := by rw [s3]; exact s6
          have HS2 := Lib.hid (show z = prodS p l v (j + 1) by
            show z = (prodS p l v j + l.getD j 0 % p * (v.getD j 0 % p)) % p
            rw [← HS.out, hx, hy, hx1, hy1, ht1, ht2, hz])
          have HSR2 := Lib.hid (And.intro s4 s5)
          have HEW2 := Lib.hid (show Ext wr wx.drew from HEW.out.drew)
          have HBW2 := Lib.hid (show Below C w wx.drew from HBW.out.drew)
          have hCx2 : C ≤ wx.drew.heap.size := hCx
          clear hcell1 hcell2 hx hy hx1 hy1 bx by' ht1 ht2 hz s4 s5
          go_upto_region 9 with fail
          refine wp_region_still_lit (by kernel_rfl) (by kernel_rfl) ?_
          repeat still_step
          still_call ((CX.out _).mono (fun _ _ h => ⟨h.1, h.2.symm⟩))
          repeat still_step
          still_call ((CY.out _).mono (fun _ _ h => ⟨h.1, h.2.symm⟩))
          repeat still_step
          refine wpStill_nil ?_
          go_wp2
          go_roundw
          case rel => first | exact ⟨j + 1, z, by omega, by go_num, rfl, HS2, HSR2, HEW2, HBW2, hCx2⟩ | exact ⟨j + 1, z, by omega, by go_num, rfl, HS2, HSR2, HEW, HBW, hCx⟩
          case measure => simp [intOf]; omega
        · obtain rfl : c = j := by omega
          have hown := HOWN.out.below HEW.out
          obtain ⟨t, ht⟩ : ∃ t, prodS p l v c = t := ⟨_, rfl⟩
          have hst : s = t := HS.out.trans ht
          rw [ht] at HNP
          subst hst
          clear ht
          go_wp2_with (at_builtin; refine wpList_append_z _ rfl (.tmp 43) (.tmp 45) rfl C _ ((prodM p M v n c).take i) s rfl rfl hown hCx hlp ?_)
          intro pv' w2 hp2' hB2
          have hsz := hB2.size
          rw [← HNP.out] at hp2'
          have Rr := Lib.hid (And.intro hp2' (Lib.hid (HBW.out.trans hB2)))
          clear hp2' hown hB2
          go_wp2
          go_roundw
          case rel => exact ⟨i + 1, by omega, by go_num, Rr.out.1, Rr.out.2, by omega⟩
          case measure => simp [intOf] <;> omega
    · obtain rfl : n = i := by omega
      rw [List.take_of_length_le (by rw [prodM_len]; exact Nat.le_refl _)] at hown
      obtain ⟨zo, zc, rfl, hns⟩ := hown.nsV
      rw [prodM_len] at hns ⊢
      have HNS := Lib.hid hns
      have HEF := Lib.hid (HEX.out _ HB.out)
      clear hown hns
      go_wp2
      go_ret
      exact ⟨_, _, rfl, HNS.out, HEF.out⟩
end Go.Proofs.YthicfkeiggcjjaaGreatDoor

namespace Go.Proofs.YthicfkeiggcjjaaGreatDoor
open Go Go.RowKit

set_option maxRecDepth 100000 in
set_option maxHeartbeats 8000000 in
theorem square_yes (ao : Option Addr) (n cap : Nat) (M : List (List Int)) (p : Int) (w : World) (hm : Nss w ao n cap M) (hT : Table64 w) (hp : mr p = true) (hrow : ∀ i, i < n → (M.getD i []).length = n) (hw : widthM M = n) (hn : n ≤ 200) :
    Calls Tryz.prog 35 #[.slice ao n cap, .int .i64 p] w fun r w' => ∃ b rs, r = .returned (.tuple #[.slice (some ⟨b, 0, none⟩) n n, .int .i64 0]) ∧ Mat w' b rs n (resM p M) ∧ rs.length = n ∧ (∀ i, i < rs.length → n ≤ (rs.getD i (0, 0)).2 ∧ w.heap.size ≤ (rs.getD i (0, 0)).1) ∧ w.heap.size ≤ b ∧ Ext w w' ∧ MatX w' b rs n (resM p M) ∧ ∀ i, i < n → (rs.getD i (0, 0)).2 = n := by
  have CR := Lib.hid (residues_x ao n cap n M p w hm hT hp hrow hw hn hn)
  have CW := Lib.hid (fun wx (h : Ext w wx) => width_any ao n cap M wx (hm.below h))
  rw [hw] at CW
  have hb : ((n : Int) != (n : Int)) = false := by simp
  clear hm hT hp hrow hw
  go_enter Tryz.func35, Tryz.ntmps35
  go_wp2_with fail
  refine CR.out.mono ?_
  rintro e w1 ⟨b, rs, rfl, hR⟩
  have HR := Lib.hid hR
  clear CR hR
  go_wp2_with fail
  refine (CW.out _ HR.out.2.2.2.2.1).mono ?_
  rintro e w2 ⟨rfl, rfl⟩
  go_wp2
  refine bodyPost_ret (v := .tuple #[.slice (some ⟨b, 0, none⟩) n n, .int .i64 0]) (by simp [results, Tryz.results35, go_sem]) rfl ⟨b, rs, rfl, HR.out⟩

set_option maxRecDepth 100000 in
set_option maxHeartbeats 8000000 in
theorem rank_yes (ao : Option Addr) (n cap c : Nat) (M : List (List Int)) (S : Ech) (p : Int) (w : World) (hm : Nss w ao n cap M) (hT : Table64 w) (hp : mr p = true) (hrow : ∀ i, i < n → (M.getD i []).length = c) (hw : widthM M = c) (hn : n ≤ 200) (hc : c ≤ 200)
    (hS : reduceE p c 0 ⟨resM p M, [], 1⟩ = S) :
    Calls Tryz.prog 11 #[.slice ao n cap, .int .i64 p] w fun r w' => r = .returned (.tuple #[.int .i64 (S.L.length : Nat), .int .i64 0]) ∧ Ext w w' := by
  obtain ⟨p2, p3⟩ := mr_bounds hp
  obtain ⟨k, hk⟩ : ∃ k, S.L.length = k := ⟨_, rfl⟩
  rw [hk]
  have HK := Lib.hid hk
  clear hk
  have CRS := Lib.hid (residues_yes ao n cap c M p w hm hT hp hrow hw hn hc)
  have hok := res_ok (p := p) (by omega) hm.len hrow
  have HOK := Lib.hid hok
  have CW := Lib.hid (fun wx (h : Ext w wx) => width_any ao n cap M wx (hm.below h))
  rw [hw] at CW
  have HS := Lib.hid hS
  clear hm hT hp hrow hw hok hS
  go_enter Tryz.func11, Tryz.ntmps11
  go_wp2_with fail
  refine CRS.out.mono ?_
  rintro r w1 ⟨b, rs, rfl, hM, hrl, hcp, hbB, hE⟩
  clear CRS
  have HE1 := Lib.hid hE
  go_wp2_with fail
  refine (CW.out _ HE1.out).mono ?_
  rintro r w2 ⟨rfl, rfl⟩
  clear CW
  go_wp2_with fail
  refine (echReduce_any b n c c w.heap.size n p rs (resM p M) S w1 hM HOK.out hrl (Nat.le_refl _) (Nat.le_refl _) (fun i hi => (hcp i hi).1) (by omega) p3 (fun i hi => (hcp i hi).2) hbB (Below.size HE1.out) (by omega) (by omega) HS.out).mono ?_
  rintro r w2 ⟨rs', qo, qk, qc, rfl, hM2, hrl2, hoz, hB2⟩
  obtain ⟨rfl, hns⟩ := hoz.nsE
  have HE2 := Lib.hid (show Ext w w2 from Below.trans HE1.out hB2)
  clear hM hrl hcp hbB hE hoz hB2 HOK HS hns hM2
  go_upto_region 5 with fail
  obtain ⟨e, he⟩ : ∃ e, w2.heap.size = e := ⟨_, rfl⟩
  have hv := VBlk.new w2 #[.int .i64 p, .slice (some ⟨b, 0, none⟩) n n, .slice qo S.L.length qc, .int .i64 S.f] 59
  have hEa : Ext w2 (w2.alloc (.cells #[.int .i64 p, .slice (some ⟨b, 0, none⟩) n n, .slice qo S.L.length qc, .int .i64 S.f] 59)) := (Below.refl _ _).alloc (Nat.le_refl _) _
  have HE3 := Lib.hid (HE2.out.trans hEa)
  rw [he] at hv
  rw [he]
  generalize hV : w2.alloc (.cells #[.int .i64 p, .slice (some ⟨b, 0, none⟩) n n, .slice qo S.L.length qc, .int .i64 S.f] 59) = V at *
  have e2 := hv.c 2
  rw [HK.out] at e2 ⊢
  clear hV hEa hv
  go_wp2
  refine bodyPost_ret (v := .tuple #[.int .i64 (k : Int), .int .i64 0]) (by simp [results, Tryz.results11, go_sem]) rfl ⟨rfl, HE3.out⟩

end Go.Proofs.YthicfkeiggcjjaaGreatDoor
