import Derived.Test.YtapcecjbmcoliaaGrLlU36
import Derived.Test.YtapcecjbmcoliaaGrLlU39
import Derived.Test.YtapcecjbmcoliaaGrLlU35
import Derived.Test.YtapcecjbmcoliaaGrLlU31
import Derived.Test.YtapcecjbmcoliaaGrLlU46
import Derived.Test.YtapcecjbmcoliaaGrLlU7
import Derived.Test.YtapcecjbmcoliaaGrLlU1
import Derived.Test.YtapcecjbmcoliaaProg
import Derived.IntWalk
import Derived.Laws.Shifts
import Derived.Test.YtapcecjbmcoliaaRows
import Derived.WalkKit
import Derived.WalkSpells
import Derived.WalkLawsBesides
import Derived.Shelf.Spec.TrailingZeros
import Derived.Test.YtapcecjbmcoliaaGrLlU5
import Derived.Maps.OwnOps
import Derived.Maps.OwnSet
import Derived.Maps.Views
namespace Go.Proofs.Ytapcecjbmcoliaa
open Go Go.RowKit

theorem lvl_le : ∀ (A : List (List Nat)) (x : Nat), lvl A x ≤ A.length
  | [], x => by simp [lvl]
  | k :: A, x => by
    have := lvl_le A x
    unfold lvl
    rw [List.length_cons]
    split
    · omega
    · split <;> omega
/-- a neighbour in the list before has been met, or none is wanted -/
def befB (A : List (List Nat)) (R : List Nat) (X k : Nat) : Bool := decide (X ≤ 1) || (R.take k).any fun u => lvl A u + 1 == X
theorem befB_zero (A : List (List Nat)) (R : List Nat) (X : Nat) : befB A R X 0 = decide (X ≤ 1) := by simp [befB]
theorem befB_next {A : List (List Nat)} {R : List Nat} {X k : Nat} (h : k < R.length) : befB A R X (k + 1) = (befB A R X k || lvl A (R.getD k 0) + 1 == X) := by
  unfold befB
  rw [List.take_succ_eq_append_getElem h, List.any_append]
  simp [List.getD, h, Bool.or_assoc]
theorem befB_all {A : List (List Nat)} {R : List Nat} {X : Nat} (h : 1 < X → ∃ u ∈ R, lvl A u + 1 = X) : befB A R X R.length = true := by
  unfold befB
  rw [List.take_length]
  by_cases h1 : X ≤ 1
  · rw [decide_eq_true h1]; rfl
  · obtain ⟨u, hu, e⟩ := h (by omega)
    rw [Bool.or_eq_true, List.any_eq_true]
    exact Or.inr ⟨u, hu, by simpa using e⟩
theorem RowB.drew {w : World} {g : Nat} {l : List Int} (h : RowB w g l) : RowB w.drew g l := by
  obtain ⟨r, h⟩ := h
  exact ⟨r, h⟩

set_option maxRecDepth 100000 in
set_option maxHeartbeats 8000000 in
theorem glev_yes (o : Option Addr) (n v : Int) (m cap : Nat) (L : List Int) (w : World) (h : Ns w o m cap L) (hm : m ≤ 60) :
    Calls Try.prog 4 #[.int .i64 n, .slice o m cap, .int .i64 v] w fun e w' => e = .returned (.bool true) ∧ Ext w w' := by
  have HL := Lib.hid h
  have AW := Lib.hid (fun wx (_ : Ext w wx) => gawake_any wx)
  obtain ⟨k, hk, CP0⟩ := place_at n 12 (by omega) (by omega)
  have CP := Lib.hid (show ∀ wx : World, Calls Try.prog 9 #[.int .i64 n, .int .i64 12] wx fun e w' => e = .returned (.int .i64 (k : Int)) ∧ wx = w' from CP0)
  obtain ⟨N, hN⟩ : ∃ N : Nat, N = k + 1 := ⟨_, rfl⟩
  have hwr : IntKind.i64.wrap (1 + (k : Int)) = (N : Int) := by rw [IntWalk.i64_in _ (by omega)]; omega
  have hnn : (1 : Int) + (k : Int) = (N : Int) := by omega
  have hN0 : 0 < N := by omega
  have hN12 : N ≤ 12 := by omega
  have hml : ¬ (m : Int) > 60 := by omega
  clear CP0 hN h
  obtain ⟨r, hr, CQ0⟩ := place_at v N hN0 (by omega)
  have CQ := Lib.hid CQ0
  clear CQ0
  obtain ⟨OI, hmi, hvi⟩ := make_ints N (by omega)
  have HMI := Lib.hid hmi
  have HVI := Lib.hid hvi
  clear hmi hvi
  go_enter Try.func4, Try.ntmps4
  go_wp2_with fail
  refine (CP.out _).mono ?_
  rintro e wq ⟨rfl, rfl⟩
  go_wp2_with fail
  refine (graph_any o N m cap L w HL.out (by omega) (by omega)).mono ?_
  rintro e w2 ⟨a, gv, grs, ⟨hg, hlt⟩, rfl, hrs, hE⟩
  obtain ⟨ao, gc, rfl, -⟩ := hrs.slE
  have hgl : grs.length = N := by rw [← hrs.len, adjM_len]
  rw [hgl] at hrs ⊢
  have HG2 := Lib.hid hrs.nssAt
  have HE2 := Lib.hid hE
  have HLT := Lib.hid hlt
  clear hrs hE hgl hlt hk
  go_upto_region 5 with fail
  obtain ⟨V, hV, hEV, b1, -⟩ := gbox_val w2 (.slice ao N gc)
  rw [← hV]
  clear hV
  have HWV := Lib.hid (Ext.trans HE2.out hEV)
  have HN := Lib.hid (HG2.out.below hEV)
  generalize w2.heap.size = B at *
  have HBX := Lib.hid (show ∀ wx, Ext V wx → wx.cell? ⟨B, 0, none⟩ = some (.slice ao N gc) from fun wx hx => (b1.low hx b1.lt).c)
  clear hEV b1 HE2 HG2
  have hri : (r : Int) < (N : Int) := by omega
  go_wp2_with fail
  refine (CQ.out _).mono ?_
  rintro e wq ⟨rfl, rfl⟩
  have k0 := HBX.out V (Ext.refl _)
  have CLV := Lib.hid (levelsG_any ao N gc r a V HN.out hg hr (by omega))
  go_wp2_with fail
  refine CLV.out.mono ?_
  rintro e w3 ⟨lv, lrs, rfl, hrs, hE⟩
  obtain ⟨po, pc, rfl, -⟩ := hrs.slE
  have h3 := Lib.hid hE
  have hl1 := lev0_pos N r a
  have hl6 := lev0_len N r a
  have hok := lev0_ok (a := a) hr
  have hap := lev0_apart (a := a) hr
  have HNR := Lib.hid (fun v w hv hw h => lvl_near (v := v) (w := w) hg hr hv hw h)
  have HBK := Lib.hid (fun v h => lvl_back (v := v) hg hr h)
  have hc0 := lev0_cons (n := N) (r := r) a
  have hlen : lrs.length = (lev0 N a r).length := by rw [← hrs.len]; simp
  rw [hlen] at hrs ⊢
  generalize lev0 N a r = A at *
  obtain ⟨x, hx⟩ : ∃ x, A.length = x := ⟨_, rfl⟩
  rw [hx] at hrs hl1 hl6 ⊢
  have HX := Lib.hid hx
  have HLS := Lib.hid hrs.nssAt
  have HOK := Lib.hid hok
  have HAP := Lib.hid hap
  have HC0 := Lib.hid hc0
  clear hE CLV hrs hlen hx hok hap hc0 k0
  obtain ⟨g, hgs⟩ : ∃ s, w3.heap.size = s := ⟨_, rfl⟩
  have hmi := HMI.out w3
  have hvi := HVI.out w3
  have hEO : Ext w3 (w3.alloc OI) := (Below.refl _ _).alloc (Nat.le_refl _) _
  rw [hgs] at hmi hvi
  have HGS := Lib.hid hgs
  have HR0 := Lib.hid (show RowB (w3.alloc OI) g (mkAt N A (visL A 0 0)) from by
    rw [visL_zero, List.take_zero, List.flatten_nil, mkAt_nil]
    exact ⟨[], by simpa using hvi⟩)
  have HE0 := Lib.hid hEO
  clear hgs hvi hEO
  go_wp2
  go_loopw [10] (fun iv wr => ∃ i : Nat, i ≤ x ∧ iv = .int .i64 (i : Int) ∧ Hid (RowB wr g (mkAt N A (visL A i 0))) ∧ Hid (Ext w3 wr)) (fun iv _ => x - (intOf iv).toNat)
  case atStart => exact ⟨0, Nat.zero_le _, rfl, HR0, HE0⟩
  case round =>
    clear HR0 HE0
    obtain ⟨i, hi, rfl, hR, hE⟩ := hrel
    by_cases hlt : i < x
    · have hii : (i : Int) < (x : Int) := by omega
      have hiA : i < A.length := by rw [HX.out]; exact hlt
      obtain ⟨b, off, rfl, hc⟩ := HLS.out.rows (by omega)
      obtain ⟨ri, ci, k1, hns⟩ := hc i hlt
      have e1 : (A.map castZ).getD i [] = castZ (A.getD i []) := by simp [List.getD, hiA]
      have hmem : A.getD i [] ∈ A := by
        simp only [List.getD, List.getElem?_eq_getElem hiA, Option.getD_some]
        exact List.getElem_mem hiA
      obtain ⟨f1, f2, f3⟩ := HOK.out _ hmem
      have hlvl := fun y (hy : y ∈ A.getD i []) => lvl_of HAP.out hy
      have hnew := fun k (hk : k < (A.getD i []).length) => visL_new HAP.out hk f2
      have hnext := fun k (hk : k < (A.getD i []).length) => visL_next hk
      have hend := visL_end hiA
      rw [e1, castZ_len] at k1 hns
      obtain ⟨l, hl⟩ : ∃ l, A.getD i [] = l := ⟨_, rfl⟩
      rw [hl] at k1 hns f1 f2 f3 hlvl hnew hnext hend
      obtain ⟨m', hm'⟩ : ∃ m', l.length = m' := ⟨_, rfl⟩
      have hm1 : 0 < m' := by rw [← hm']; exact List.length_pos_iff.2 f1
      have hm2 : m' ≤ N := by rw [← hm']; exact nodup_le (f2.imp (fun h => Nat.ne_of_lt h)) f3
      rw [hm'] at k1 hns hnew hnext hend
      have K1 := Lib.hid (show ∀ wx, Ext w3 wx → wx.cell? ⟨b, off + i, none⟩ = some (.slice ri m' ci) from fun wx hx => (hx.cell (lt_of_cell k1)).trans k1)
      have HNS := Lib.hid hns
      have HLV := Lib.hid hlvl
      have HNW := Lib.hid hnew
      have HNX := Lib.hid hnext
      have HND := Lib.hid hend
      have HF3 := Lib.hid f3
      have HML := Lib.hid hm'
      have CA := Lib.hid (ascending_any ri m' ci l wr (hns.below hE.out) f2 (by omega))
      have k1 := K1.out _ hE.out
      have hz : ((m' : Int) == 0) = false := by rw [beq_eq_false_iff_ne]; omega
      obtain ⟨c, hcc⟩ : ∃ c : Int, (i : Int) + 1 = c := ⟨_, rfl⟩
      have hwc : IntKind.i64.wrap ((i : Int) + 1) = c := by rw [IntWalk.i64_in _ (by omega)]; exact hcc
      have HCC := Lib.hid hcc
      have HWC := Lib.hid hwc
      clear hc hns e1 hmem f1 f2 f3 hlvl hnew hnext hend hl hm' hcc hwc
      go_wp2_with fail
      refine CA.out.mono ?_
      rintro e w5 ⟨rfl, hE5⟩
      have hR5 := Lib.hid (hR.out.below hE5)
      have h5 := Lib.hid (Ext.trans hE.out hE5)
      clear hE5 CA k1 hR hE
      go_wp2
      go_loopw [11] (fun kv wx => ∃ k : Nat, k ≤ m' ∧ kv = .int .i64 (k : Int) ∧ Hid (RowB wx g (mkAt N A (visL A i k))) ∧ Hid (Ext w3 wx)) (fun kv _ => m' - (intOf kv).toNat)
      case atStart => exact ⟨0, Nat.zero_le _, rfl, hR5, h5⟩
      case round =>
        clear hR5 h5
        rename World => wx
        obtain ⟨k, hk, rfl, hR, hE⟩ := hrel
        have k1 := K1.out _ hE.out
        by_cases hkl : k < m'
        · have hki : (k : Int) < (m' : Int) := by omega
          have hkL : k < l.length := by rw [HML.out]; exact hkl
          obtain ⟨b2, o2, rfl, hc2⟩ := (HNS.out.below hE.out).cells (by omega)
          have k2 := hc2 k hkl
          rw [castZ_get hkL] at k2
          have hvm : l.getD k 0 ∈ l := by
            simp only [List.getD, List.getElem?_eq_getElem hkL, Option.getD_some]
            exact List.getElem_mem hkL
          have hvN := HF3.out _ hvm
          have hvl := HLV.out _ hvm
          have hvn := HNW.out k hkl
          have hvx := HNX.out k hkl
          obtain ⟨y, hy⟩ : ∃ y, l.getD k 0 = y := ⟨_, rfl⟩
          rw [hy] at k2 hvN hvl hvn hvx
          have q0 := hR.out.c (j := y) (by rw [mkAt_len]; exact hvN)
          have q1 := hR.out.f y
          have e0 : (mkAt N A (visL A i k)).getD y 0 = 0 := by
            rw [mkAt_get A _ hvN, hvn]
            rfl
          rw [e0] at q0
          have hset := hR.out.set (j := y) (by rw [mkAt_len]; exact hvN) c
          rw [mkAt_set (A := A) (show (lvl A y : Int) = c by rw [hvl, ← HCC.out]; simp), ← hvx] at hset
          have RR := Lib.hid hset
          have RE := Lib.hid (show Ext w3 (wx.setCell ⟨g, y, none⟩ (.int .i64 c)) from Below.trans hE.out ((only_set1 wx g y (.int .i64 c)).below (Nat.le_of_eq HGS.out)))
          have hy0 : decide ((y : Int) < 0) = false := decide_eq_false (by omega)
          have hy1 : decide ((y : Int) ≥ (N : Int)) = false := decide_eq_false (by omega)
          have hy2 : decide (N ≤ y) = false := decide_eq_false (by omega)
          have hyi : (y : Int) < (N : Int) := by omega
          have hcc := HCC.out
          have hwc := HWC.out
          have hcb1 : 0 ≤ c := by omega
          have hcb2 : c ≤ 13 := by omega
          clear hc2 hy e0 hset hvm hvl hvn hvx hR hE
          go_wp2
          go_roundw
          case rel => exact ⟨k + 1, by omega, by go_num, RR, RE⟩
          case measure => simp [intOf] <;> omega
        · obtain rfl : m' = k := by omega
          have hmm : ¬ (m' : Int) < (m' : Int) := by omega
          rw [HND.out] at hR
          go_wp2
          go_roundw
          case rel => exact ⟨i + 1, by omega, by go_num, hR, hE⟩
          case measure => simp [intOf] <;> omega
    · obtain rfl : x = i := by omega
      have hxx : ¬ (x : Int) < (x : Int) := by omega
      have hvl : visL A x 0 = A.flatten := by rw [visL_zero, List.take_of_length_le (by rw [HX.out]; exact Nat.le_refl _)]
      rw [hvl] at hR
      obtain ⟨T, hT⟩ : ∃ T, mkAt N A A.flatten = T := ⟨_, rfl⟩
      rw [hT] at hR
      have HTL := Lib.hid (show T.length = N by rw [← hT]; exact mkAt_len _ _ _)
      have HXB := Lib.hid (show ∀ y, lvl A y ≤ 14 from fun y => by have := lvl_le A y; rw [HX.out] at this; omega)
      have HTG := Lib.hid (show ∀ y, y < N → T.getD y 0 = (lvl A y : Int) from fun y hy => by rw [← hT]; exact mkAt_all hy)
      obtain ⟨b, off, rfl, hc⟩ := (HLS.out.below hE.out).rows (by omega)
      obtain ⟨ri, ci, k1, hns⟩ := hc 0 (by omega)
      have e1 : (A.map castZ).getD 0 [] = [(r : Int)] := by
        obtain ⟨l, e⟩ := HC0.out
        rw [e]
        rfl
      rw [e1] at k1 hns
      obtain ⟨b2, o2, rfl, hc2⟩ := hns.cells (Nat.zero_lt_one)
      have k2 := hc2 0 Nat.zero_lt_one
      have k1' : wr.cell? ⟨b, off, none⟩ = some (.slice (some ⟨b2, o2, none⟩) 1 ci) := k1
      have k2' : wr.cell? ⟨b2, o2, none⟩ = some (.int .i64 (r : Int)) := k2
      have hne : ((x : Int) == 0) = false := by rw [beq_eq_false_iff_ne]; omega
      clear hT hvl hc hns e1 hc2 k1 k2
      go_wp2
      go_loopw [13] (fun vv wx => ∃ v : Nat, v ≤ N ∧ vv = .int .i64 (v : Int) ∧ Hid (RowB wx g T) ∧ Hid (Ext w3 wx)) (fun vv _ => N - (intOf vv).toNat)
      case atStart => exact ⟨0, Nat.zero_le _, rfl, hR, hE⟩
      case round =>
        clear hR hE k1' k2'
        rename World => wx
        obtain ⟨v, hv, rfl, hR, hE⟩ := hrel
        by_cases hvN : v < N
        · have hvi : (v : Int) < (N : Int) := by omega
          have q0 := hR.out.c (j := v) (by rw [HTL.out]; exact hvN)
          rw [HTG.out v hvN] at q0
          obtain ⟨X, hX⟩ : ∃ X, lvl A v = X := ⟨_, rfl⟩
          rw [hX] at q0
          obtain ⟨gb, gof, rfl, hgc⟩ := HN.out.rows (by omega)
          obtain ⟨rv, cv, kg, hns⟩ := hgc v hvN
          rw [adjM_get a hvN, rowZ_cast, castZ_len] at kg hns
          have hbk := fun (h : 1 < X) => HBK.out v (by rw [hX]; exact h)
          rw [hX] at hbk
          have hnr := fun (u : Nat) (hu : u ∈ rowN N a v) => HNR.out v u hvN (mem_rowN.1 hu).1 (mem_rowN.1 hu).2
          rw [hX] at hnr
          have hrl := fun (u : Nat) (hu : u ∈ rowN N a v) => (mem_rowN.1 hu).1
          have hdl : (rowN N a v).length ≤ N := Nat.le_trans (List.length_filter_le _ _) (by rw [List.length_range]; exact Nat.le_refl _)
          generalize rowN N a v = R at *
          obtain ⟨d, hd⟩ : ∃ d, R.length = d := ⟨_, rfl⟩
          rw [hd] at kg hns hdl
          have HD := Lib.hid hd
          have KG := Lib.hid (show ∀ wy, Ext w3 wy → wy.cell? ⟨gb, gof + v, none⟩ = some (.slice rv d cv) from fun wy hy => ((Ext.trans h3.out hy).cell (lt_of_cell kg)).trans kg)
          have HNS := Lib.hid (show ∀ wy, Ext w3 wy → Ns wy rv d cv (castZ R) from fun wy hy => hns.below (Ext.trans h3.out hy))
          have HNRX := Lib.hid hnr
          have HBKX := Lib.hid hbk
          have HRL := Lib.hid hrl
          have HBV := Lib.hid (show befB A R X 0 = decide (X ≤ 1) from befB_zero A R X)
          have HXV := Lib.hid hX
          have k0 := HBX.out _ (Ext.trans h3.out hE.out)
          have kg := KG.out _ hE.out
          clear hX hgc hns hbk hnr hrl hd
          go_wp2
          go_loopw [14, 15] (fun bv kv wy => ∃ k : Nat, k ≤ d ∧ kv = .int .i64 (k : Int) ∧ bv = .bool (befB A R X k) ∧ Hid (RowB wy g T) ∧ Hid (Ext w3 wy)) (fun _ kv _ => d - (intOf kv).toNat)
          case atStart => exact ⟨0, Nat.zero_le _, rfl, by rw [HBV.out]; congr 1; rw [decide_eq_decide]; omega, hR, hE⟩
          case round =>
            clear hR hE k0 kg q0
            rename World => wy
            obtain ⟨k, hk, rfl, rfl, hR, hE⟩ := hrel
            have k0 := HBX.out _ (Ext.trans h3.out hE.out)
            have kg := KG.out _ hE.out
            by_cases hkl : k < d
            · have hki : (k : Int) < (d : Int) := by omega
              have hkR : k < R.length := by rw [HD.out]; exact hkl
              obtain ⟨b3, o3, rfl, hc3⟩ := (HNS.out _ hE.out).cells (by omega)
              have k3 := hc3 k hkl
              rw [castZ_get hkR] at k3
              have hum : R.getD k 0 ∈ R := by
                simp only [List.getD, List.getElem?_eq_getElem hkR, Option.getD_some]
                exact List.getElem_mem hkR
              have hnx := befB_next (A := A) (X := X) hkR
              have hun := HRL.out _ hum
              have hnr := HNRX.out _ hum
              generalize R.getD k 0 = u at *
              have q0 := hR.out.c (j := v) (by rw [HTL.out]; exact hvN)
              have q1 := hR.out.c (j := u) (by rw [HTL.out]; exact hun)
              rw [HTG.out v hvN, HXV.out] at q0
              rw [HTG.out u hun] at q1
              obtain ⟨Y, hY⟩ : ∃ Y, lvl A u = Y := ⟨_, rfl⟩
              rw [hY] at q1 hnr hnx
              have hui : (u : Int) < (N : Int) := by omega
              have hX13 : X ≤ 14 := by have := HXB.out v; rw [HXV.out] at this; exact this
              obtain ⟨p, hp⟩ : ∃ p : Int, (X : Int) = p := ⟨_, rfl⟩
              obtain ⟨q, hq⟩ : ∃ q : Int, (Y : Int) = q := ⟨_, rfl⟩
              have n1 : p - q ≤ 1 := by omega
              have n2 : q - p ≤ 1 := by omega
              have n3 : (p == 0) = (q == 0) := by
                rw [Bool.eq_iff_iff, beq_iff_eq, beq_iff_eq]
                omega
              have n4 : (q == p - 1) = (Y + 1 == X) := by
                rw [Bool.eq_iff_iff, beq_iff_eq, beq_iff_eq]
                omega
              have n5 : 0 ≤ p := by omega
              have n6 : p ≤ 14 := by omega
              have n7 : 0 ≤ q := by omega
              have n8 : q ≤ 15 := by omega
              rw [hp] at q0
              rw [hq] at q1
              rw [← n4] at hnx
              obtain ⟨d1, hd1⟩ : ∃ d1, p - q = d1 := ⟨_, rfl⟩
              obtain ⟨d2, hd2⟩ : ∃ d2, q - p = d2 := ⟨_, rfl⟩
              obtain ⟨d3, hd3⟩ : ∃ d3, p - 1 = d3 := ⟨_, rfl⟩
              have w1 : IntKind.i64.wrap (p - q) = d1 := by rw [IntWalk.i64_in _ (by omega)]; exact hd1
              have w2 : IntKind.i64.wrap (q - p) = d2 := by rw [IntWalk.i64_in _ (by omega)]; exact hd2
              have w3' : IntKind.i64.wrap (p - 1) = d3 := by rw [IntWalk.i64_in _ (by omega)]; exact hd3
              have g1 : ¬ d1 > 1 := by omega
              have g2 : ¬ d2 > 1 := by omega
              rw [hd3] at hnx
              obtain ⟨z, hz⟩ : ∃ z, (p == 0) = z := ⟨_, rfl⟩
              rw [hz] at n3
              replace n3 := n3.symm
              obtain ⟨t, ht⟩ : ∃ t, (q == d3) = t := ⟨_, rfl⟩
              rw [ht] at hnx
              have HNXT := Lib.hid hnx
              have RR := Lib.hid hR.out.drew
              have RE := Lib.hid (Below.drew hE.out)
              obtain ⟨bf, hbf⟩ : ∃ bf, befB A R X k = bf := ⟨_, rfl⟩
              rw [hbf] at HNXT ⊢
              clear hc3 hum hnr hY hp hq n1 n2 n4 n5 n6 n7 n8 hnx hbf hX13 hd1 hd2 hd3
              go_upto_region 30 with fail
              have HTT := Lib.hid ht
              clear ht
              go_quiet (fail)
              have ht := HTT.out
              have RX := Lib.hid (And.intro hR.out hE.out)
              cases bf
              · cases t
                · have HB := Lib.hid (show befB A R X (k + 1) = false by rw [HNXT.out]; rfl)
                  clear HNXT hR hE
                  go_upto_region 32 with fail
                  go_quiet (fail)
                  go_wp2
                  go_roundw
                  case rel => exact ⟨k + 1, by omega, by go_num, by rw [HB.out], Lib.hid (RX.out.1.below (by first | exact ext_drewN _ _ | exact Ext.trans (ext_drewN _ _) (ext_drewN _ _))), Lib.hid (Ext.trans RX.out.2 (by first | exact ext_drewN _ _ | exact Ext.trans (ext_drewN _ _) (ext_drewN _ _)))⟩
                  case measure => simp [intOf] <;> omega
                · have HB := Lib.hid (show befB A R X (k + 1) = true by rw [HNXT.out]; rfl)
                  clear HNXT hR hE
                  go_upto_region 32 with fail
                  go_quiet (fail)
                  go_wp2
                  go_roundw
                  case rel => exact ⟨k + 1, by omega, by go_num, by rw [HB.out], Lib.hid (RX.out.1.below (by first | exact ext_drewN _ _ | exact Ext.trans (ext_drewN _ _) (ext_drewN _ _))), Lib.hid (Ext.trans RX.out.2 (by first | exact ext_drewN _ _ | exact Ext.trans (ext_drewN _ _) (ext_drewN _ _)))⟩
                  case measure => simp [intOf] <;> omega
              · have HB := Lib.hid (show befB A R X (k + 1) = true by rw [HNXT.out]; rfl)
                clear HNXT hR hE
                go_upto_region 32 with fail
                go_quiet (fail)
                go_wp2
                go_roundw
                case rel => exact ⟨k + 1, by omega, by go_num, by rw [HB.out], Lib.hid (RX.out.1.below (by first | exact ext_drewN _ _ | exact Ext.trans (ext_drewN _ _) (ext_drewN _ _))), Lib.hid (Ext.trans RX.out.2 (by first | exact ext_drewN _ _ | exact Ext.trans (ext_drewN _ _) (ext_drewN _ _)))⟩
                case measure => simp [intOf] <;> omega
            · obtain rfl : d = k := by omega
              have hdd : ¬ (d : Int) < (d : Int) := by omega
              have hall := befB_all HBKX.out
              rw [HD.out] at hall
              rw [hall]
              go_wp2
              go_roundw
              case rel => exact ⟨v + 1, by omega, by go_num, hR, hE⟩
              case measure => simp [intOf] <;> omega
        · obtain rfl : N = v := by omega
          have hnv : ¬ (N : Int) < (N : Int) := by omega
          have HF0 := Lib.hid (Ext.trans HWV.out (Ext.trans h3.out hE.out))
          go_wp2_with fail
          refine (AW.out _ HF0.out).mono ?_
          rintro e w9 ⟨rfl, hE9⟩
          have HF := Lib.hid (Ext.trans HF0.out hE9)
          go_wp2
          go_ret
          exact ⟨rfl, HF.out⟩

set_option maxRecDepth 100000 in
set_option maxHeartbeats 4000000 in
theorem glev_any (o : Option Addr) (n v : Int) (m cap : Nat) (w : World) (hr0 : m ≤ 1000000 → ∃ L, Ns w o m cap L) :
    Calls Try.prog 4 #[.int .i64 n, .slice o m cap, .int .i64 v] w fun e w' => e = .returned (.bool true) ∧ Ext w w' := by
  by_cases hm : m ≤ 60
  · obtain ⟨L, hL⟩ := hr0 (by omega)
    exact glev_yes o n v m cap L w hL hm
  · have AW := Lib.hid (gawake_any w)
    have h1 : (m : Int) > 60 := by omega
    clear hr0 hm
    go_enter Try.func4, Try.ntmps4
    go_wp2_with fail
    refine AW.out.mono ?_
    rintro e w9 ⟨rfl, h9⟩
    have HF := Lib.hid h9
    go_wp2
    go_ret
    exact ⟨rfl, HF.out⟩
end Go.Proofs.Ytapcecjbmcoliaa
