import Derived.Test.YthicfkeiggcjjaaGreatDoorEcDlU22
import Derived.Test.YthicfkeiggcjjaaGreatDoorEcDlU31
import Derived.Test.YthicfkeiggcjjaaGreatDoorEcDlU36
import Derived.Test.YthicfkeiggcjjaaGreatDoorEcDlU46
import Derived.Test.YthicfkeiggcjjaaGreatDoorEcDlU21
namespace Go.Proofs.YthicfkeiggcjjaaGreatDoor
open Go Go.RowKit

theorem detE_lt {p : Int} {n c m : Nat} {S : Ech} (hp : 2 ≤ p) (h : EOk p n c S) : 0 ≤ detE m S ∧ detE m S < p := by
  unfold detE
  split
  · omega
  · exact h.f
theorem det_rows {n i : Nat} {A : List (List Int)} (hn : n ≤ 4) (hl : A.length = n) (hi : i + 1 < n) : detF n (ent (swapL A i (i + 1) [])) = -detF n (ent A) := by
  rw [← det_swap hn (show i < n by omega) hi (by omega) (ent A)]
  refine det_eq hn fun r j _ _ => ?_
  unfold ent
  rw [swap_get [] (by omega) (by omega)]

set_option maxRecDepth 100000 in
set_option maxHeartbeats 16000000 in
theorem mdet_any (ao bo : Option Addr) (m1 ca mb cb : Nat) (l bs : List Int) (n0 i0 p0 : Int) (w : World) (hl : Ns w ao m1 ca l) (hb : Ns w bo mb cb bs) (hT : Table64 w) (hP : Pow10 w) :
    Calls Tryz.prog 4 #[.slice ao m1 ca, .slice bo mb cb, .int .i64 n0, .int .i64 i0, .int .i64 p0] w fun e w' => e = .returned (.bool true) ∧ Ext w w' := by
  have HL := Lib.hid hl
  have HB := Lib.hid hb
  have HT := Lib.hid hT
  have HAW := Lib.hid (show ∀ wx, Ext w wx → Calls Tryz.prog 8 #[] wx fun e w' => e = .returned (.bool true) ∧ Ext wx w' from fun wx h => mawake_any wx (hT.below h) (hP.below h))
  clear hl hb hT hP
  go_enter Tryz.func4, Tryz.ntmps4
  by_cases h1 : (25 : Int) < (m1 : Int)
  · go_wp2_with fail
    refine (HAW.out _ (Ext.refl _)).mono ?_
    rintro e wa ⟨rfl, hwa⟩
    have HEA := Lib.hid hwa
    clear hwa
    go_wp2
    go_ret
    exact ⟨rfl, HEA.out⟩
  · by_cases h2 : (25 : Int) < (mb : Int)
    · go_wp2_with fail
      refine (HAW.out _ (Ext.refl _)).mono ?_
      rintro e wa ⟨rfl, hwa⟩
      have HEA := Lib.hid hwa
      clear hwa
      go_wp2
      go_ret
      exact ⟨rfl, HEA.out⟩
    · have hm1 : m1 ≤ 25 := by omega
      have hmb : mb ≤ 25 := by omega
      go_wp2_with fail
      refine (prime_any p0 _).mono ?_
      rintro e w1 ⟨p, rfl, hG, hE⟩
      obtain ⟨hp, hpr⟩ := hG
      obtain ⟨p2, p3⟩ := mr_bounds hp
      have HE1 := Lib.hid hE
      clear hE h1 h2
      go_wp2_with fail
      refine (place_any n0 5 _ (by omega) (by omega)).mono ?_
      rintro e w2 ⟨n, hn5, rfl, rfl⟩
      have hn4 : n ≤ 4 := by omega
      go_wp2_with fail
      refine (square_rs ao n m1 ca l _ (HL.out.below HE1.out) (by omega) (by omega)).mono ?_
      rintro e w3 ⟨va, ra, rfl, hrs, hE⟩
      obtain ⟨so, sc, rfl, hsc⟩ := hrs.slE
      have hra : ra.length = n := by have := hrs.len; rw [sq_len] at this; exact this.symm
      have HRA := Lib.hid hra
      rw [hra] at hrs hsc ⊢
      have HW2 := Lib.hid (show w.heap.size ≤ w1.heap.size from Below.size HE1.out)
      have HE3 := Lib.hid (HE1.out.trans hE)
      have HRS := Lib.hid hrs
      clear hrs hE hra
      go_wp2_with fail
      refine (square_any bo n mb cb bs _ (HB.out.below HE3.out) (by omega) (by omega)).mono ?_
      rintro e w4 ⟨to', tc, rfl, hns, hE⟩
      have HE4 := Lib.hid (HE3.out.trans hE)
      have HRS4 := Lib.hid (HRS.out.below hE)
      have HNB := Lib.hid hns
      have HNA := Lib.hid (show Nss w4 so n sc (sqM l n) from by
        obtain ⟨ao2, cap2, e2, h2⟩ := HRS4.out.nss
        rw [sq_len] at e2 h2
        cases e2
        exact h2)
      clear hns hE HE3 HRS
      obtain ⟨A, hA⟩ : ∃ A, sqM l n = A := ⟨_, rfl⟩
      obtain ⟨B, hB⟩ : ∃ B, sqM bs n = B := ⟨_, rfl⟩
      have hrowA : ∀ i, i < n → (A.getD i []).length = n := fun i hi => by rw [← hA, sq_row hi, sqRow_len]
      have hrowB : ∀ i, i < n → (B.getD i []).length = n := fun i hi => by rw [← hB, sq_row hi, sqRow_len]
      have hlA : A.length = n := by rw [← hA]; exact sq_len l n
      have hlB : B.length = n := by rw [← hB]; exact sq_len bs n
      have hwid : ∀ M : List (List Int), M.length = n → (∀ i, i < n → (M.getD i []).length = n) → widthM M = n := fun M h1 h2 => by
        rcases Nat.eq_zero_or_pos n with h | h
        · rw [h] at h1
          rw [List.eq_nil_of_length_eq_zero h1, h]; rfl
        · exact h2 0 h
      rw [hA] at HNA
      rw [hB] at HNB
      obtain ⟨S, hS⟩ : ∃ S, reduceE p n 0 ⟨resM p A, [], 1⟩ = S := ⟨_, rfl⟩
      obtain ⟨U, hU⟩ : ∃ U, reduceE p n 0 ⟨resM p B, [], 1⟩ = U := ⟨_, rfl⟩
      have hlC : (tmM p A B n).length = n := tm_len p A B n
      have hrowC : ∀ i, i < n → ((tmM p A B n).getD i []).length = n := fun i hi => by rw [tm_row hi, tmRow_len]
      obtain ⟨V, hV⟩ : ∃ V, reduceE p n 0 ⟨resM p (tmM p A B n), [], 1⟩ = V := ⟨_, rfl⟩
      have hokA := res_ok (p := p) (n := n) (c := n) p2 hlA hrowA
      have hosS : EOk p n n S := by rw [← hS]; exact hokA.reduce p2 n 0 _
      have hosU : EOk p n n U := by rw [← hU]; exact (res_ok (p := p) (n := n) (c := n) p2 hlB hrowB).reduce p2 n 0 _
      have hosV : EOk p n n V := by rw [← hV]; exact (res_ok (p := p) (n := n) (c := n) p2 hlC hrowC).reduce p2 n 0 _
      have hmul := det_mul hpr p2 hn4 hlA hrowA hlB hrowB hlC hrowC (fun i j hi hj => tm_cg hi hj) hS hU hV
      have hdS := detE_lt (m := n) p2 hosS
      have hdU := detE_lt (m := n) p2 hosU
      have hdV := detE_lt (m := n) p2 hosV
      have hpos : 0 < S.f := by rw [← hS]; exact reduce_pos hpr p2 n 0 _ hokA (by omega) (show (0 : Int) < 1 by omega)
      have CDA := Lib.hid (fun wx (h : Ext w4 wx) => det_yes so n sc A S p wx (HNA.out.below h) (HT.out.below (HE4.out.trans h)) hp hrowA (hwid A hlA hrowA) (by omega) hS)
      have CDB := Lib.hid (fun wx (h : Ext w4 wx) => det_yes to' n tc B U p wx (HNB.out.below h) (HT.out.below (HE4.out.trans h)) hp hrowB (hwid B hlB hrowB) (by omega) hU)
      have CTM := Lib.hid (fun wx (h : Ext w4 wx) => mtimes_any so to' n sc tc A B p wx (HNA.out.below h) (HNB.out.below h) hrowA hrowB (by omega) p2 p3)
      have CDC := Lib.hid (fun wx (h : Ext w4 wx) vo vc (hv : Nss wx vo n vc (tmM p A B n)) => det_yes vo n vc (tmM p A B n) V p wx hv (HT.out.below (HE4.out.trans h)) hp hrowC (hwid _ hlC hrowC) (by omega) hV)
      have CRK := Lib.hid (fun wx (h : Ext w4 wx) => rank_yes so n sc n A S p wx (HNA.out.below h) (HT.out.below (HE4.out.trans h)) hp hrowA (hwid A hlA hrowA) (by omega) (by omega) hS)
      have HSWR := Lib.hid (show ∀ i, i + 1 < n → ∀ t, t < n → ((swapL (sqM l n) i (i + 1) []).getD t []).length = n from fun i hi t ht => by
        rw [hA, swap_get [] (by omega) (by omega)]
        exact hrowA _ (swI_lt (by omega) (by omega) ht))
      have hDS := det_is hpr p2 hn4 hlA hrowA hS
      obtain ⟨d, hd⟩ : ∃ d, detE n S = d := ⟨_, rfl⟩
      obtain ⟨f, hf⟩ : ∃ f, detE n U = f := ⟨_, rfl⟩
      obtain ⟨hh, hhe⟩ : ∃ hh, detE n V = hh := ⟨_, rfl⟩
      obtain ⟨rk, hrk⟩ : ∃ rk, S.L.length = rk := ⟨_, rfl⟩
      have hdz : d = 0 ↔ rk < n := by
        rw [← hd, ← hrk]
        unfold detE
        by_cases h : S.L.length < n
        · rw [if_pos h]; exact ⟨fun _ => h, fun _ => rfl⟩
        · rw [if_neg h]; exact ⟨fun e => by omega, fun e => absurd e h⟩
      have hrkn : rk ≤ n := by rw [← hrk]; exact hosS.pl
      rw [hd] at CDA hdS hmul hDS
      rw [hf] at CDB hdU hmul
      rw [hhe] at CDC hdV hmul
      rw [hrk] at CRK
      have HSWD := Lib.hid (show ∀ i, i + 1 < n → 0 ≤ detE n (reduceE p n 0 ⟨resM p (swapL (sqM l n) i (i + 1) []), [], 1⟩) ∧ detE n (reduceE p n 0 ⟨resM p (swapL (sqM l n) i (i + 1) []), [], 1⟩) < p ∧ (detE n (reduceE p n 0 ⟨resM p (swapL (sqM l n) i (i + 1) []), [], 1⟩) + d).tmod p = 0 from fun i hi => by
        have hls : (swapL (sqM l n) i (i + 1) []).length = n := by rw [swap_len, sq_len]
        have hos := (res_ok (p := p) (n := n) (c := n) p2 hls (HSWR.out i hi)).reduce p2 n 0 _
        have h1 := detE_lt (m := n) p2 hos
        refine ⟨h1.1, h1.2, ?_⟩
        rw [Int.tmod_eq_emod_of_nonneg (by omega)]
        have h2 := det_is hpr p2 hn4 hls (HSWR.out i hi) rfl
        have h3 := det_rows hn4 (sq_len l n) hi
        rw [hA] at h3
        rw [hA] at h2 ⊢
        rw [h3] at h2
        have h4 := h2.add hDS
        have e : -detF n (ent A) + detF n (ent A) = 0 := by omega
        rw [e] at h4
        have h5 := h4.same
        rw [Int.zero_emod] at h5
        exact h5)
      obtain ⟨s1, s2, s3, s4⟩ := mul_step p2 p3 hdS.1 hdS.2 hdU.1 hdU.2
      have hhm : d * f % p = hh := by
        rw [← hmul.same]
        exact Int.emod_eq_of_lt hdV.1 hdV.2
      rw [hhm] at s2 s3 s4
      obtain ⟨t0, ht0⟩ : ∃ t0, d * f = t0 := ⟨_, rfl⟩
      rw [ht0] at s1 s2
      have s1b : IntKind.i64.wrap (d * f) = t0 := by rw [ht0]; exact s1
      have s6 : IntKind.i64.wrap hh = hh := IntWalk.i64_in _ (by omega)
      have s7 : IntKind.i64.wrap (t0.tmod p) = hh := by rw [s2]; exact s6
      have hpne : ¬ p = 0 := by omega
      have hpb : (p == 0) = false := beq_eq_false_iff_ne.2 hpne
      clear hS hU hV hokA hosS hosU hosV hmul hpos hDS hd hf hhe hrk hhm hrowA hrowB hrowC hlA hlB hlC hwid hpr hdU hdV s3 s4
      go_wp2_with fail
      refine (CDA.out _ (Ext.refl _)).mono ?_
      rintro e w5 ⟨rfl, hE⟩
      have HX5 := Lib.hid hE
      clear hE CDA
      go_wp2_with fail
      refine (CDB.out _ HX5.out).mono ?_
      rintro e w6 ⟨rfl, hE⟩
      have HX6 := Lib.hid (HX5.out.trans hE)
      clear hE CDB HX5
      go_wp2_with fail
      refine (CTM.out _ HX6.out).mono ?_
      rintro e w7 ⟨vo, vc, rfl, hns, hE⟩
      have HX7 := Lib.hid (HX6.out.trans hE)
      have HNC := Lib.hid hns
      clear hE CTM HX6 hns
      go_wp2_with fail
      refine (CDC.out _ HX7.out vo vc HNC.out).mono ?_
      rintro e w7 ⟨rfl, hE⟩
      have HX8 := Lib.hid (HX7.out.trans hE)
      clear hE CDC HX7 HNC
      go_wp2_with fail
      refine (CRK.out _ HX8.out).mono ?_
      rintro e w8 ⟨rfl, hE⟩
      have HX9 := Lib.hid (HX8.out.trans hE)
      have HE8 := Lib.hid (HE4.out.trans HX9.out)
      have HRS8 := Lib.hid (HRS4.out.below HX9.out)
      clear hE CRK HX8 hA hB HNA HNB HRS4
      have hhb : (hh != hh) = false := by simp
      by_cases hlt : rk < n
      · obtain rfl : d = 0 := hdz.2 hlt
        obtain rfl : 0 = t0 := by rw [← ht0]; simp
        obtain rfl : 0 = hh := by have := s2; rw [Int.zero_tmod] at this; exact this
        have h0w : IntKind.i64.wrap 0 = 0 := IntWalk.i64_in _ (by omega)
        have hrb : ((rk : Int) == (n : Int)) = false := by apply beq_eq_false_iff_ne.2; omega
        clear hdz s1 s1b s2 s6 s7 hhb ht0
        by_cases hn2 : n < 2
        · have hn2i : (n : Int) < 2 := by omega
          go_wp2_with fail
          refine (HAW.out _ HE8.out).mono ?_
          rintro e wa ⟨rfl, hwa⟩
          have HEA := Lib.hid (HE8.out.trans hwa)
          clear hwa
          go_wp2
          go_ret
          exact ⟨rfl, HEA.out⟩
        · have hn2i : ¬ (n : Int) < 2 := by omega
          obtain ⟨n1, hn1⟩ : ∃ n1, n - 1 = n1 := ⟨_, rfl⟩
          have hnw : IntKind.i64.wrap ((n : Int) - 1) = (n1 : Int) := by rw [IntWalk.i64_in _ (by omega)]; omega
          go_wp2_with fail
          refine (place_any i0 n1 _ (by omega) (by omega)).mono ?_
          rintro e w9 ⟨i, hi, rfl, rfl⟩
          rename World => w8
          have hso : ∃ a0, so = some a0 := by
            obtain ⟨_, h2⟩ := HRS8.out.own
            rcases h2 with ⟨_, hz⟩ | ⟨g2, c2, cur, e, _⟩
            · have := HRA.out; omega
            · cases e; exact ⟨_, rfl⟩
          obtain ⟨a0, rfl⟩ := hso
          have hrsl := HRS8.out
          obtain ⟨g, hge, hcell⟩ := hrsl.cellE
          subst hge
          have hi1 : i < ra.length := by rw [HRA.out]; omega
          have hi2 : i + 1 < ra.length := by rw [HRA.out]; omega
          have k1 := hcell i hi1
          have k2 := hcell (i + 1) hi2
          have hex := hrsl.exch hi1 hi2 HRA.out
          have hown := World.ownsRow.lt hrsl.own g rfl
          have fz : ∀ o, w8.frozen? ⟨g, o, none⟩ = false := fun o => by
            obtain ⟨_, h2⟩ := hrsl.own
            rcases h2 with ⟨e, _⟩ | ⟨g2, c2, cur, e, _, hg, _⟩
            · cases e
            · cases e; simp [World.frozen?, hg]
          have f1 := fz i
          have f2 := fz (i + 1)
          obtain ⟨y1, hy1⟩ : ∃ y1, ra.getD i nilV = y1 := ⟨_, rfl⟩
          obtain ⟨y2, hy2⟩ : ∃ y2, ra.getD (i + 1) nilV = y2 := ⟨_, rfl⟩
          rw [hy1] at k1 hex
          rw [hy2] at k2 hex
          obtain ⟨q1, c1, hq1, _⟩ := (hrsl.row i hi1).nsV
          obtain ⟨q2, c2, hq2, _⟩ := (hrsl.row (i + 1) hi2).nsV
          rw [hy1] at hq1
          rw [hy2] at hq2
          subst hq1
          subst hq2
          have hln : ∀ t, t < n → ((sqM l n).getD t []).length = n := fun t ht => by rw [sq_row ht, sqRow_len]
          rw [hln i (by omega)] at k1 hex
          rw [hln (i + 1) (by omega)] at k2 hex
          have o1 := only_set1 w8 g i (.slice q2 n c2)
          have o2 := only_set1 (w8.setCell ⟨g, i, none⟩ (.slice q2 n c2)) g (i + 1) (.slice q1 n c1)
          have HEXC := Lib.hid hex
          have HEN := Lib.hid (show Ext w ((w8.setCell ⟨g, i, none⟩ (.slice q2 n c2)).setCell ⟨g, i + 1, none⟩ (.slice q1 n c1)) from Below.trans HE8.out (Below.trans (o1.below (Nat.le_trans HW2.out hown.1)) (o2.below (Nat.le_trans HW2.out hown.1))))
          have hi1i : (i : Int) < (n : Int) := by omega
          have hi2i : (i : Int) + 1 < (n : Int) := by omega
          have hiw : IntKind.i64.wrap ((i : Int) + 1) = ((i + 1 : Nat) : Int) := by rw [IntWalk.i64_in _ (by omega)]; omega
          have hi3i : ((i + 1 : Nat) : Int) < (n : Int) := by omega
          have n1 : ¬ i = i + 1 := by omega
          have n2 : ¬ i + 1 = i := by omega
          have CDX := Lib.hid (fun wx (hx : Ext w wx) (h : Nss wx (some ⟨g, 0, none⟩) n sc (swapL (sqM l n) i (i + 1) [])) => det_yes (some ⟨g, 0, none⟩) n sc _ _ p wx h (HT.out.below hx) hp (HSWR.out i (by omega)) (HSWR.out i (by omega) 0 (by omega)) (by omega) rfl)
          have hxd := HSWD.out i (by omega)
          obtain ⟨x, hx⟩ : ∃ x, detE n (reduceE p n 0 ⟨resM p (swapL (sqM l n) i (i + 1) []), [], 1⟩) = x := ⟨_, rfl⟩
          rw [hx] at CDX hxd
          obtain rfl : x = 0 := by
            have h := hxd.2.2
            rw [Int.add_zero, Int.tmod_eq_emod_of_nonneg hxd.1, Int.emod_eq_of_lt hxd.1 hxd.2.1] at h
            exact h
          clear hrsl hcell hi1 hi2 hex hown fz hy1 hy2 hln o1 o2 hx hxd
          go_upto_region 14 with fail
          first | go_region | fail "r14"
          clear k1 k2 f1 f2
          go_wp2_with fail
          refine (CDX.out _ (by first | exact HEN.out | exact HEN.out.drew) (by first | exact HEXC.out | exact HEXC.out.below (Below.refl _ _).drew)).mono ?_
          rintro e w9 ⟨rfl, hE⟩
          have HE9 := Lib.hid (Ext.trans (by first | exact HEN.out | exact HEN.out.drew) hE)
          clear hE
          go_wp2_with fail
          refine (HAW.out _ HE9.out).mono ?_
          rintro e wa ⟨rfl, hwa⟩
          have HEA := Lib.hid (HE9.out.trans hwa)
          clear hwa
          go_wp2
          go_ret
          exact ⟨rfl, HEA.out⟩
      · have hd0 : ¬ d = 0 := fun e => hlt (hdz.1 e)
        have hdb : (d == 0) = false := beq_eq_false_iff_ne.2 hd0
        have hdb2 : (d != 0) = true := by simp only [bne, hdb]; rfl
        obtain rfl : rk = n := by omega
        clear hdz hlt ht0
        by_cases hn2 : rk < 2
        · have hn2i : (rk : Int) < 2 := by omega
          go_wp2_with fail
          refine (HAW.out _ HE8.out).mono ?_
          rintro e wa ⟨rfl, hwa⟩
          have HEA := Lib.hid (HE8.out.trans hwa)
          clear hwa
          go_wp2
          go_ret
          exact ⟨rfl, HEA.out⟩
        · have hn2i : ¬ (rk : Int) < 2 := by omega
          obtain ⟨n1, hn1⟩ : ∃ n1, rk - 1 = n1 := ⟨_, rfl⟩
          have hnw : IntKind.i64.wrap ((rk : Int) - 1) = (n1 : Int) := by rw [IntWalk.i64_in _ (by omega)]; omega
          go_wp2_with fail
          refine (place_any i0 n1 _ (by omega) (by omega)).mono ?_
          rintro e w9 ⟨i, hi, rfl, rfl⟩
          rename World => w8
          have hso : ∃ a0, so = some a0 := by
            obtain ⟨_, h2⟩ := HRS8.out.own
            rcases h2 with ⟨_, hz⟩ | ⟨g2, c2, cur, e, _⟩
            · have := HRA.out; omega
            · cases e; exact ⟨_, rfl⟩
          obtain ⟨a0, rfl⟩ := hso
          have hrsl := HRS8.out
          obtain ⟨g, hge, hcell⟩ := hrsl.cellE
          subst hge
          have hi1 : i < ra.length := by rw [HRA.out]; omega
          have hi2 : i + 1 < ra.length := by rw [HRA.out]; omega
          have k1 := hcell i hi1
          have k2 := hcell (i + 1) hi2
          have hex := hrsl.exch hi1 hi2 HRA.out
          have hown := World.ownsRow.lt hrsl.own g rfl
          have fz : ∀ o, w8.frozen? ⟨g, o, none⟩ = false := fun o => by
            obtain ⟨_, h2⟩ := hrsl.own
            rcases h2 with ⟨e, _⟩ | ⟨g2, c2, cur, e, _, hg, _⟩
            · cases e
            · cases e; simp [World.frozen?, hg]
          have f1 := fz i
          have f2 := fz (i + 1)
          obtain ⟨y1, hy1⟩ : ∃ y1, ra.getD i nilV = y1 := ⟨_, rfl⟩
          obtain ⟨y2, hy2⟩ : ∃ y2, ra.getD (i + 1) nilV = y2 := ⟨_, rfl⟩
          rw [hy1] at k1 hex
          rw [hy2] at k2 hex
          obtain ⟨q1, c1, hq1, _⟩ := (hrsl.row i hi1).nsV
          obtain ⟨q2, c2, hq2, _⟩ := (hrsl.row (i + 1) hi2).nsV
          rw [hy1] at hq1
          rw [hy2] at hq2
          subst hq1
          subst hq2
          have hln : ∀ t, t < rk → ((sqM l rk).getD t []).length = rk := fun t ht => by rw [sq_row ht, sqRow_len]
          rw [hln i (by omega)] at k1 hex
          rw [hln (i + 1) (by omega)] at k2 hex
          have o1 := only_set1 w8 g i (.slice q2 rk c2)
          have o2 := only_set1 (w8.setCell ⟨g, i, none⟩ (.slice q2 rk c2)) g (i + 1) (.slice q1 rk c1)
          have HEXC := Lib.hid hex
          have HEN := Lib.hid (show Ext w ((w8.setCell ⟨g, i, none⟩ (.slice q2 rk c2)).setCell ⟨g, i + 1, none⟩ (.slice q1 rk c1)) from Below.trans HE8.out (Below.trans (o1.below (Nat.le_trans HW2.out hown.1)) (o2.below (Nat.le_trans HW2.out hown.1))))
          have hi1i : (i : Int) < (rk : Int) := by omega
          have hi2i : (i : Int) + 1 < (rk : Int) := by omega
          have hiw : IntKind.i64.wrap ((i : Int) + 1) = ((i + 1 : Nat) : Int) := by rw [IntWalk.i64_in _ (by omega)]; omega
          have hi3i : ((i + 1 : Nat) : Int) < (rk : Int) := by omega
          have n1 : ¬ i = i + 1 := by omega
          have n2 : ¬ i + 1 = i := by omega
          have CDX := Lib.hid (fun wx (hx : Ext w wx) (h : Nss wx (some ⟨g, 0, none⟩) rk sc (swapL (sqM l rk) i (i + 1) [])) => det_yes (some ⟨g, 0, none⟩) rk sc _ _ p wx h (HT.out.below hx) hp (HSWR.out i (by omega)) (HSWR.out i (by omega) 0 (by omega)) (by omega) rfl)
          have hxd := HSWD.out i (by omega)
          obtain ⟨x, hx⟩ : ∃ x, detE rk (reduceE p rk 0 ⟨resM p (swapL (sqM l rk) i (i + 1) []), [], 1⟩) = x := ⟨_, rfl⟩
          rw [hx] at CDX hxd
          have hxw : IntKind.i64.wrap (x + d) = x + d := IntWalk.i64_in _ (by omega)
          obtain ⟨t, ht⟩ : ∃ t, x + d = t := ⟨_, rfl⟩
          rw [ht] at hxw
          have hxw2 : IntKind.i64.wrap (x + d) = t := by rw [ht]; exact hxw
          have htm : t.tmod p = 0 := by rw [← ht]; exact hxd.2.2
          have h0w : IntKind.i64.wrap 0 = 0 := IntWalk.i64_in _ (by omega)
          have htm2 : IntKind.i64.wrap (t.tmod p) = 0 := by rw [htm]; exact h0w
          clear hrsl hcell hi1 hi2 hex hown fz hy1 hy2 hln o1 o2 hx hxd ht
          go_upto_region 14 with fail
          first | go_region | fail "r14"
          clear k1 k2 f1 f2
          go_wp2_with fail
          refine (CDX.out _ (by first | exact HEN.out | exact HEN.out.drew) (by first | exact HEXC.out | exact HEXC.out.below (Below.refl _ _).drew)).mono ?_
          rintro e w9 ⟨rfl, hE⟩
          have HE9 := Lib.hid (Ext.trans (by first | exact HEN.out | exact HEN.out.drew) hE)
          clear hE
          go_wp2_with fail
          refine (HAW.out _ HE9.out).mono ?_
          rintro e wa ⟨rfl, hwa⟩
          have HEA := Lib.hid (HE9.out.trans hwa)
          clear hwa
          go_wp2
          go_ret
          exact ⟨rfl, HEA.out⟩
end Go.Proofs.YthicfkeiggcjjaaGreatDoor
