import Derived.Test.YthicfkeiggcjjaaGreatDoorEcSlU32
import Derived.Test.YthicfkeiggcjjaaGreatDoorEcSlU34
import Derived.Deep.RegionLaw
import Derived.Deep.CutRange
namespace Go.Proofs.YthicfkeiggcjjaaGreatDoor
open Go Go.RowKit

/-- what Solve answers -/
def SolveOut (n : Nat) (S : Ech) (w : World) (r : Ending) (w' : World) : Prop :=
  (S.L.length < n → r = .returned (.tuple #[.slice none 0 0, .int .i64 9])) ∧ (¬ S.L.length < n → ∃ xo xc, r = .returned (.tuple #[.slice xo n xc, .int .i64 0]) ∧ Ns w' xo n xc (solL n S)) ∧ Ext w w'
set_option maxRecDepth 100000 in
set_option maxHeartbeats 16000000 in
theorem solve_yes (ao bo : Option Addr) (n cap bc : Nat) (M : List (List Int)) (bs : List Int) (S : Ech) (p : Int) (w : World) (hm : Nss w ao n cap M) (hbs : Ns w bo n bc bs) (hT : Table64 w) (hp : mr p = true) (hrow : ∀ i, i < n → (M.getD i []).length = n) (hw : widthM M = n) (hn : n ≤ 100)
    (hS : reduceE p n 0 ⟨resM p (wideM n M bs), [], 1⟩ = S) :
    Calls Tryz.prog 14 #[.slice ao n cap, .slice bo n bc, .int .i64 p] w (SolveOut n S w) := by
  obtain ⟨p2, p3⟩ := mr_bounds hp
  have CRS := Lib.hid (square_yes ao n cap M p w hm hT hp hrow hw (by omega))
  have HBS := Lib.hid hbs
  have HS := Lib.hid hS
  have hb : ((n : Int) != (n : Int)) = false := by simp
  have hok := res_ok (p := p) (n := n) (c := n + 1) (M := wideM n M bs) (by omega) (wide_len n M bs) (wide_row bs hrow)
  have HOK := Lib.hid hok
  have HOS := Lib.hid (show EOk p n (n + 1) S by rw [← hS]; exact hok.reduce (by omega) n 0 _)
  have HML := Lib.hid hm.len
  have HROW := Lib.hid hrow
  obtain ⟨f, hf⟩ : ∃ f : Nat → List Int, f = fun i => resRow p (M.getD i []) ++ [bs.getD i 0 % p] := ⟨_, rfl⟩
  have HF := Lib.hid hf
  have HWM := Lib.hid (show mixL f (resM p M) [] n = resM p (wideM n M bs) from by
    have e : (resM p M).length = n := by unfold resM; rw [List.length_map, hm.len]
    have := mix_all f (resM p M) []
    rw [e] at this
    rw [this, hf]
    unfold resM wideM
    rw [List.map_map]
    refine List.map_congr_left fun i _ => ?_
    simp [resRow])
  have HRL := Lib.hid (show (resM p M).length = n by unfold resM; rw [List.length_map, hm.len])
  obtain ⟨OI, hmi, hvi⟩ := make_ints n (by omega)
  have HVI := Lib.hid (rowB_zeros hvi)
  have CRD := Lib.hid (fun (a : Int) (wx : World) => residue_any a p wx (by omega) (by omega))
  obtain ⟨B, hBe⟩ : ∃ B, w.heap.size = B := ⟨_, rfl⟩
  have HEX := Lib.hid (show ∀ wx, Below B w wx → Ext w wx from fun wx h => by rw [← hBe] at h; exact h)
  have HBE := Lib.hid hBe
  clear hm hbs hT hp hrow hw hS hok hf hvi hBe
  go_enter Tryz.func14, Tryz.ntmps14
  go_wp2_with fail
  refine CRS.out.mono ?_
  rintro r w1 ⟨b, rs, rfl, hM, hrl, hcp, hbB, hE, hX, hcx⟩
  have HRS0 := Lib.hid (hX.rs hM hrl hcx (fun i hi => (hcp i hi).2) hbB (by omega) (by omega))
  rw [HBE.out] at HRS0
  have HE1 := Lib.hid (show Below B w w1 from by rw [← HBE.out]; exact hE)
  have HL0 := Lib.hid (show (rs.map fun g => Value.slice (some ⟨g.1, 0, none⟩) n g.2).length = n by rw [List.length_map, hrl])
  clear CRS hM hrl hcp hbB hE hX hcx
  go_wp2
  go_loopw [11, 31] (fun _ iv wr => ∃ (i : Nat) (vs : List Value), i ≤ n ∧ iv = .int .i64 (i : Int) ∧ Hid (vs.length = n) ∧ Hid (RS wr B (.slice (some ⟨b, 0, none⟩) n n) vs (mixL f (resM p M) [] i)) ∧ Hid (Below B w wr))
    (fun _ iv _ => n - (intOf iv).toNat)
  case atStart => exact ⟨0, _, Nat.zero_le _, rfl, HL0, Lib.hid (by rw [mix_zero]; exact HRS0.out), HE1⟩
  case round =>
    clear HRS0 HE1 HL0
    obtain ⟨i, vs, hi, rfl, HLV, HRS, HEB⟩ := hrel
    by_cases hlt : i < n
    · have hii : (i : Int) < (n : Int) := by omega
      obtain ⟨bb, ob, rfl, hcb⟩ := (HBS.out.below (HEX.out _ HEB.out)).cells (by omega)
      have k1 := hcb i hlt
      obtain ⟨v, hv⟩ : ∃ v, bs.getD i 0 = v := ⟨_, rfl⟩
      rw [hv] at k1
      obtain ⟨y, hy⟩ : ∃ y, v % p = y := ⟨_, rfl⟩
      have CR := Lib.hid (CRD.out v)
      rw [hy] at CR
      have hil : i < vs.length := by rw [HLV.out]; exact hlt
      obtain ⟨g0, hg0, hcell⟩ := HRS.out.cellE
      cases hg0
      have k2 := hcell i hil
      have hrowi := HRS.out.row i hil
      have hgetm : (mixL f (resM p M) [] i).getD i [] = resRow p (M.getD i []) := by
        rw [mix_get f (resM p M) [] i (by rw [HRL.out]; exact hlt), if_neg (Nat.lt_irrefl i), resM_get]
      rw [hgetm] at hrowi
      obtain ⟨l, hl⟩ : ∃ l, resRow p (M.getD i []) = l := ⟨_, rfl⟩
      have hfl : f i = l ++ [y] := by rw [HF.out]; simp only; rw [hl, hv, hy]
      have hlen : l.length = n := by rw [← hl]; unfold resRow; rw [List.length_map, HROW.out i hlt]
      rw [hl] at hrowi
      obtain ⟨ri, ci, hre⟩ := hrowi.slE
      rw [hlen] at hre
      obtain ⟨rv, hrv⟩ : ∃ rv, vs.getD i nilV = rv := ⟨_, rfl⟩
      rw [hrv] at k2 hrowi hre
      have HRV := Lib.hid hrv
      subst hre
      have hown := hrowi.drew
      have hBs : B ≤ wr.drew.heap.size := by
        have := (World.ownsRow.lt HRS.out.own b rfl)
        show B ≤ wr.heap.size
        omega
      have fb : ∀ o, wr.frozen? ⟨b, o, none⟩ = false := fun o => by
        obtain ⟨_, h2⟩ := HRS.out.own
        rcases h2 with ⟨e, _⟩ | ⟨g, c2, cur, e, _, hg, _⟩
        · cases e
        · cases e; simp [World.frozen?, hg]
      have HFZ := Lib.hid (show ∀ w2 : World, (∀ k, k < wr.drew.heap.size → Value.ownBlock (.slice ri n ci) ≠ some k → w2.heap[k]? = wr.drew.heap[k]?) → w2.frozen? ⟨b, i, none⟩ = false ∧ w2.cell? ⟨b, i, none⟩ = some (.slice ri n ci) from fun w2 h => by
        have hh := h b (World.ownsRow.lt HRS.out.own b rfl).2 (fun e => HRS.out.nb i b hil (by rw [hrv]; exact e) rfl)
        exact ⟨Eq.trans (World.frozen?_of_block (w := wr) (a := ⟨b, i, none⟩) hh) (fb i), Eq.trans (World.cell?_of_block (w := wr) (a := ⟨b, i, none⟩) hh) k2⟩)
      have HBB := Lib.hid (show B ≤ b from (World.ownsRow.lt HRS.out.own b rfl).1)
      have hl6 : l.length ≤ 1000000 := by omega
      have HOWN := Lib.hid hown
      have HFL := Lib.hid hfl
      have HIL := Lib.hid hil
      have HMS := Lib.hid (mix_set f (resM p M) [] (j := i) (by rw [HRL.out]; exact hlt))
      have k2a : (wr.alloc (.cells #[.int .i64 y] 3)).cell? ⟨b, i, none⟩ = some (.slice ri n ci) := (((Below.refl _ wr).alloc (Nat.le_refl _) (.cells #[.int .i64 y] 3)).cell (lt_of_cell k2)).trans k2
      clear hcb hv hy hcell hgetm hl hrowi hown fb hfl hlen hrv hil
      go_upto_region 10 with fail
      go_region_law (first
        | (refine step_append_zl wr.drew rfl (.tmp 39) (.tmp 46) rfl B _ l y (by simp [Act.eval]) (by simp [Act.eval]) HOWN.out hBs hl6 ?_; intro v' w2 hz1 hz2 hz3 hz4; have hse : ∃ yo yc, v' = .slice yo (l.length + 1) yc := (by obtain ⟨a1, a2, e1⟩ := hz1.slE; exact ⟨a1, a2, by rw [e1, List.length_append]; rfl⟩); obtain ⟨yo, yc, rfl⟩ := hse; have HZ := Lib.hid (And.intro hz1 (And.intro hz2 (And.intro hz3 hz4))); have fz : w2.frozen? ⟨b, i, none⟩ = false := (HFZ.out w2 hz2).1; have fc : w2.cell? ⟨b, i, none⟩ = some (.slice ri n ci) := (HFZ.out w2 hz2).2; clear hz1 hz2 hz3 hz4)
        | (go_simp; go_at_call 38; refine (CR.out _).mono ?_; rintro e w9 ⟨rfl, rfl⟩))
      all_goals
        have HRN := Lib.hid (RS.put (w0 := wr.drew) HRS.out.drew HIL.out HZ.out.1 (by rw [HRV.out]; exact HZ.out.2.1) (by rw [HRV.out]; exact HZ.out.2.2.1))
        have HLN := Lib.hid (show (vs.set i (.slice yo (l.length + 1) yc)).length = n by rw [List.length_set]; exact HLV.out)
        have HEN := Lib.hid (show ∀ u, Below B w (w2.setCell ⟨b, i, none⟩ u) from fun u => (HEB.out.drew.trans HZ.out.2.2.2).trans ((only_set1 w2 b i u).below HBB.out))
        go_wp2
        go_roundw
      any_goals (simp [intOf]; omega)
      all_goals exact ⟨i + 1, _, by omega, by go_num, HLN, Lib.hid (by rw [← HMS.out, HFL.out]; exact HRN.out), Lib.hid (HEN.out _)⟩
    · obtain rfl : n = i := by omega
      have hRS := HRS.out
      rw [HWM.out] at hRS
      obtain ⟨rp, hM, hrpl, hbB, hrp⟩ := hRS.matV (c := n + 1) (by omega) (fun i hi => HOK.out.row i (by rw [← HLV.out]; exact hi))
      rw [HLV.out] at hrpl
      have HEB2 := HEB
      clear HRS hRS HLV HEB
      go_wp2_with fail
      refine (echReduce_any b n (n + 1) n B n p rp (resM p (wideM n M bs)) S wr hM HOK.out hrpl (by omega) (Nat.le_refl _) (fun i hi => (hrp i hi).1) (by omega) p3 (fun i hi => (hrp i hi).2) hbB (by have := HEB2.out.size; have := HBE.out; omega) (by omega) (by omega) HS.out).mono ?_
      rintro r w2 ⟨rs', qo, qk, qc, rfl, hM2, hrl2, hoz, hB2⟩
      obtain ⟨rfl, hns⟩ := hoz.nsE
      have HE2 := Lib.hid (show Ext w w2 from HEX.out _ (HEB2.out.trans hB2))
      clear hM hrpl hbB hrp hoz hB2 HOK HS hns HEB2
      go_upto_region 13 with fail
      obtain ⟨k, hk⟩ : ∃ k, S.L.length = k := ⟨_, rfl⟩
      rw [hk]
      have HK := Lib.hid hk
      obtain ⟨e, he⟩ : ∃ e, w2.heap.size = e := ⟨_, rfl⟩
      have hv := VBlk.new w2 #[.int .i64 p, .slice (some ⟨b, 0, none⟩) n n, .slice qo k qc, .int .i64 S.f] 59
      have hEa : Ext w2 (w2.alloc (.cells #[.int .i64 p, .slice (some ⟨b, 0, none⟩) n n, .slice qo k qc, .int .i64 S.f] 59)) := (Below.refl _ _).alloc (Nat.le_refl _) _
      have hM2 := hM2.below hEa
      have HE3 := Lib.hid (HE2.out.trans hEa)
      rw [he] at hv
      rw [he]
      generalize hV : w2.alloc (.cells #[.int .i64 p, .slice (some ⟨b, 0, none⟩) n n, .slice qo k qc, .int .i64 S.f] 59) = V at *
      clear hV hEa hk
      have e1 := hv.c 1
      have e2 := hv.c 2
      by_cases hkn : k < n
      · have hki : (k : Int) < (n : Int) := by omega
        clear hv hM2
        go_wp2
        refine bodyPost_ret (v := .tuple #[.slice none 0 0, .int .i64 9]) (by simp [results, Tryz.results14, go_sem]) rfl ⟨fun _ => rfl, fun h => absurd (by rw [HK.out]; exact hkn) h, HE3.out⟩
      · have hki : ¬ (k : Int) < (n : Int) := by omega
        have hEo : Ext V (V.alloc OI) := (Below.refl _ _).alloc (Nat.le_refl _) _
        have hrow := HVI.out V
        obtain ⟨g, hg⟩ : ∃ g, V.heap.size = g := ⟨_, rfl⟩
        rw [hg] at hrow
        have HG := Lib.hid (show w.heap.size ≤ g from by rw [← hg]; exact Below.size HE3.out)
        have HE4 := Lib.hid (HE3.out.trans hEo)
        have hne : ∀ i, i < rs'.length → (rs'.getD i (0, 0)).1 ≠ g := fun i hi => by have := (hM2.row i hi).1.lt; omega
        have HNE := Lib.hid (And.intro hne (And.intro (show b ≠ g by have := hM2.rows.lt; omega) (show e ≠ g by have := hv.lt; omega)))
        have HM4 := Lib.hid (hM2.below hEo)
        have HV4 := Lib.hid (hv.below hEo)
        have HROW0 := Lib.hid hrow
        obtain ⟨fs, hfs⟩ : ∃ fs : Nat → Int, fs = fun i => (S.M.getD i []).getD n 0 := ⟨_, rfl⟩
        have HFS := Lib.hid hfs
        have HSOL := Lib.hid (show mixL fs (List.replicate n 0) 0 n = solL n S by rw [hfs]; exact sol_mix n S)
        clear hrow hEo hne hM2 hv hfs
        go_upto_region 16 with fail
        clear hg hmi e1 e2
        go_wp2
        generalize V.alloc OI = W at *
        go_loopw [14, 62] (fun _ iv wr => ∃ i : Nat, i ≤ n ∧ iv = .int .i64 (i : Int) ∧ VBlk wr e #[.int .i64 p, .slice (some ⟨b, 0, none⟩) n n, .slice qo k qc, .int .i64 S.f] 59 ∧ Mat wr b rs' (n + 1) S.M ∧ RowB wr g (mixL fs (List.replicate n 0) 0 i) ∧ Hid (Ext w wr))
          (fun _ iv _ => n - (intOf iv).toNat)
        case atStart => exact ⟨0, Nat.zero_le _, rfl, HV4.out, HM4.out, by rw [mix_zero]; exact HROW0.out, HE4⟩
        case round =>
          clear HV4 HM4 HROW0 HE4
          obtain ⟨i, hi, rfl, hv, hM, hrow, HEX2⟩ := hrel
          by_cases hlt : i < n
          · have hii : (i : Int) < (n : Int) := by omega
            have hir : i < rs'.length := by rw [hrl2]; exact hlt
            have e1 := hv.c 1
            have k0 := hM.slice hir
            have hri := hM.row i hir
            have c1 := hri.1.c (j := n) (by rw [hri.2]; omega)
            have q0 := hrow.c (j := i) (by rw [mix_len]; simpa using hlt)
            have q1 := hrow.f i
            have hset := hrow.set (j := i) (by rw [mix_len]; simpa using hlt) (fs i)
            rw [mix_set fs _ 0 (by simpa using hlt)] at hset
            have ho := only_set1 wr g i (.int .i64 (fs i))
            have hfx : fs i = (S.M.getD i []).getD n 0 := by rw [HFS.out]
            rw [← hfx] at c1
            obtain ⟨y, hy⟩ : ∃ y, fs i = y := ⟨_, rfl⟩
            rw [hy] at c1 hset ho
            have HVN := Lib.hid (hv.only ho HNE.out.2.2)
            have HMN := Lib.hid (hM.only ho HNE.out.2.1 HNE.out.1)
            have HRN := Lib.hid hset
            have HEN := Lib.hid (show Ext w (wr.setCell ⟨g, i, none⟩ (.int .i64 y)) from Below.trans HEX2.out (ho.below HG.out))
            obtain ⟨gi, hgi⟩ : ∃ gi, (rs'.getD i (0, 0)).1 = gi := ⟨_, rfl⟩
            obtain ⟨ci, hci⟩ : ∃ ci, (rs'.getD i (0, 0)).2 = ci := ⟨_, rfl⟩
            rw [hgi, hci] at k0
            rw [hgi] at c1
            have hni : (n : Int) < ((n + 1 : Nat) : Int) := by omega
            have hni2 : (n : Int) < (n : Int) + 1 := by omega
            clear hir hri hset ho hy hgi hci hv hM hrow hfx
            go_wp2
            go_roundw
            case rel => exact ⟨i + 1, by omega, by go_num, HVN.out, HMN.out, HRN.out, HEN⟩
            case measure => simp [intOf]; omega
          · obtain rfl : n = i := by omega
            have HNS := Lib.hid (show Ns wr (some ⟨g, 0, none⟩) n n (solL n S) from by
              rw [← HSOL.out]
              refine ⟨by rw [mix_len]; simp, Nat.le_refl _, fun _ => ⟨g, 0, rfl, fun j hj => ?_⟩⟩
              rw [Nat.zero_add]
              exact hrow.c (by rw [mix_len]; simpa using hj))
            clear hv hM hrow
            go_wp2
            refine bodyPost_ret (v := .tuple #[.slice (some ⟨g, 0, none⟩) n n, .int .i64 0]) (by simp [results, Tryz.results14, go_sem]) rfl ⟨fun h => absurd (by rw [← HK.out]; exact h) hkn, fun _ => ⟨_, _, rfl, HNS.out⟩, HEX2.out⟩
end Go.Proofs.YthicfkeiggcjjaaGreatDoor
