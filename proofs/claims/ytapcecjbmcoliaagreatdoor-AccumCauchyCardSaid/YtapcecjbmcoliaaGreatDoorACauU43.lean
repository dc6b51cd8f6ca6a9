import Derived.Test.YtapcecjbmcoliaaGreatDoorACauU42
import Derived.Test.YtapcecjbmcoliaaGreatDoorACauU5
import Derived.Test.YtapcecjbmcoliaaGreatDoorACauU3
namespace Go.Proofs.YtapcecjbmcoliaaGreatDoor
open Go Go.RowKit

set_option maxRecDepth 100000 in
set_option maxHeartbeats 2000000 in
theorem longB_any (xs ys : List Int) (ao bo : Option Addr) (n m ca cb : Nat) (w : World) (ha : Sl w ao n ca xs) (hb : Sl w bo m cb ys) (hn : n ≤ 1000000000) (hm : m ≤ 1000000000) :
    Calls Tryz.prog 79 #[.slice ao n ca, .slice bo m cb] w fun e w' => ∃ g k cap R, e = .returned (.slice (some ⟨g, 0, none⟩) k cap) ∧ Blk w' g (limbs (num xs * num ys).toNat ++ R) ∧ (limbs (num xs * num ys).toNat).length = k ∧ Wf R ∧ k + R.length ≤ 2000000000 ∧ k ≤ cap ∧ w.heap.size ≤ g ∧ Below w.heap.size w w' := by
  have hst := PRows.start xs ys n m hb.len
  have HS := Lib.hid hst; clear hst
  go_enter Tryz.func79, Tryz.ntmps79
  go_wp2_with (refine wpList_make_u32 _ rfl _ _ rfl _ (n + m) rfl rfl (by omega) (by omega) ?_)
  intro w1 hb1 hw1
  have ha1 := ha.below hw1
  have hb1' := hb.below hw1
  have hsa := ha.cells.stay_below hw1 (Nat.le_refl _)
  have hsb := hb.cells.stay_below hw1 (Nat.le_refl _)
  generalize hg : w.heap.size = g at *
  have HG := Lib.hid hg; clear hg
  go_wp2
  go_loopw [6, 7, 8, 9, 10, 11, 20, 35] (fun _ _ _ _ _ _ i _ wr => ∃ (k : Nat) (Lk : List Int), k ≤ m ∧ i = .int .i64 k ∧ PRows xs ys Lk n k ∧ Blk wr g Lk ∧ Only g w1 wr)
    (fun _ _ _ _ _ _ i _ _ => m - (intOf i).toNat)
  case atStart => exact ⟨0, _, Nat.zero_le _, rfl, HS.out, hb1, Only.refl g w1⟩
  case round =>
    obtain ⟨k, Lk, hk, rfl, hP, hbk, ho⟩ := hrel
    by_cases hlt : k < m
    · obtain ⟨bb, ob, rfl, hcb⟩ := hsb _ ho (by rw [hb.len]; omega)
      have c1 := hcb k (by rw [hb.len]; omega)
      clear hcb
      have hxr := hb.wf.getD k
      obtain ⟨x, hx⟩ : ∃ x, ys.getD k 0 = x := ⟨_, rfl⟩
      rw [hx] at c1 hxr
      have HX := Lib.hid hx; clear hx
      obtain ⟨x0, x1⟩ := hxr
      have HP := Lib.hid hP; clear hP
      go_wp2
      go_loopw [9, 10, 11, 35] (fun c _ _ i wr => ∃ (j : Nat) (cc : Int) (Li : List Int), j ≤ n ∧ i = .int .i64 j ∧ c = .int .u64 cc ∧ 0 ≤ cc ∧ cc ≤ 4294967295 ∧ Added Lk Li (k + j) cc (4294967296 ^ k * (x * num (xs.take j))) ∧ Blk wr g Li ∧ Only g w1 wr)
        (fun _ _ _ i _ => n - (intOf i).toNat)
      case atStart => exact ⟨0, 0, Lk, Nat.zero_le _, rfl, rfl, by omega, by omega, Added.at HP.out.2.1 k, hbk, ho⟩
      case round =>
        obtain ⟨j, cc, Li, hj, rfl, rfl, hc0, hc1, hA, hbi, hoi⟩ := hrel
        have hlen : Li.length = n + m := by rw [hA.1, HP.out.1, hb.len]
        have hlen2 : Lk.length = n + m := by rw [HP.out.1, hb.len]
        by_cases hjt : j < n
        · obtain ⟨ba, oa, rfl, hca⟩ := hsa _ hoi (by rw [ha.len]; omega)
          have c2 := hca j (by rw [ha.len]; omega)
          clear hca
          have hyr := ha.wf.getD j
          obtain ⟨y, hy⟩ : ∃ y, xs.getD j 0 = y := ⟨_, rfl⟩
          rw [hy] at c2 hyr
          have HY := Lib.hid hy; clear hy
          obtain ⟨y0, y1⟩ := hyr
          have c3 := hbi.cell (k + j) (by omega)
          have c4 := hbi.frozen (k + j)
          rw [getD_of_drop hA.2.2.1] at c3
          have hzr := HP.out.2.1.getD (k + j)
          obtain ⟨z, hz⟩ : ∃ z, Lk.getD (k + j) 0 = z := ⟨_, rfl⟩
          rw [hz] at c3 hzr
          have HZ := Lib.hid hz; clear hz
          obtain ⟨z0, z1⟩ := hzr
          obtain ⟨p0, p1⟩ := mul_bounds x0 x1 y0 y1
          have HLn := Lib.hid hlen; clear hlen
          have HLn2 := Lib.hid hlen2; clear hlen2
          go_wp2
          go_roundw
          case rel =>
            have st := hA.step (by rw [HLn2.out]; omega) (x * y) (cc + (x * y + z)) (by rw [HZ.out]; omega)
            rw [row_step, ← HY.out, ← num_take_succ xs j (by rw [ha.len]; exact hjt), HY.out] at st
            exact ⟨j + 1, _, _, by omega, by go_num, rfl, by omega, by omega, st, hbi.set _ _, hoi.setCell _ _⟩
          case measure => simp [intOf] <;> omega
        · obtain rfl : j = n := by omega
          have HLn := Lib.hid hlen; clear hlen
          have HLn2 := Lib.hid hlen2; clear hlen2
          have c4 := hbi.frozen (k + j)
          have c3 := hbi.cell (k + j) (by rw [HLn.out]; omega)
          go_wp2
          go_roundw
          case rel =>
            have hz0 := HP.out.2.2.2 (k + j) (by omega)
            have st := hA.step (by rw [HLn2.out]; omega) 0 cc (by rw [hz0]; omega)
            rw [Int.emod_eq_of_lt hc0 (by omega), Int.ediv_eq_zero_of_lt hc0 (by omega), Int.mul_zero, Int.add_zero, List.take_of_length_le (by rw [ha.len]; exact Nat.le_refl _)] at st
            exact ⟨k + 1, _, by omega, by go_num, HP.out.step st (by omega) (by rw [hb.len]; exact hlt) HX.out, hbi.set _ _, hoi.setCell _ _⟩
          case measure => simp [intOf] <;> omega
    · obtain rfl : k = m := by omega
      have hlen : Lk.length = n + k := by rw [hP.1, hb.len]
      have HLn := Lib.hid hlen; clear hlen
      have HP := Lib.hid hP; clear hP
      go_wp2_with fail
      have htk := take_tlen HP.out.2.1 (n + k) (by rw [HLn.out]; exact Nat.le_refl _)
      rw [List.take_of_length_le (show Lk.length ≤ n + k by rw [HLn.out]; exact Nat.le_refl _)] at htk
      have hnum := HP.out.2.2.1
      rw [List.take_of_length_le (by rw [hb.len]; exact Nat.le_refl _)] at hnum
      rw [hnum] at htk
      refine (trim_any _ (n + k) _ Lk wr HLn.out (by omega) (Nat.le_refl _) hbk.at).mono ?_
      rintro e w4 ⟨rfl, rfl⟩
      obtain ⟨q, hq⟩ : ∃ q, tlen Lk (n + k) = q := ⟨_, rfl⟩
      have hqn : q ≤ n + k := by rw [← hq]; exact tlen_le _ _
      rw [hq] at htk ⊢
      have HTK := Lib.hid htk
      have HBK := Lib.hid hbk
      clear hq hbk htk hnum
      go_wp2
      go_ret
      refine ⟨g, q, _, Lk.drop q, rfl, ?_, ?_, HP.out.2.1.drop q, ?_, hqn, Nat.le_of_eq HG.out, by rw [HG.out]; exact hw1.trans (ho.below (Nat.le_refl _))⟩
      · rw [← HTK.out, List.take_append_drop]; exact HBK.out
      · rw [← HTK.out, List.length_take, HLn.out]; omega
      · rw [List.length_drop, HLn.out]; omega

set_option maxRecDepth 100000 in
set_option maxHeartbeats 1000000 in
theorem timesB_any (a b : Nat) (ao bo : Option Addr) (n m ca cb : Nat) (w : World) (ha : Sl w ao n ca (limbs a)) (hb : Sl w bo m cb (limbs b)) (hn : n ≤ 1000000000) (hm : m ≤ 1000000000) (hs : n < 100 ∨ m < 100) :
    Calls Tryz.prog 54 #[.slice ao n ca, .slice bo m cb] w fun e w' => ∃ g k cap R, e = .returned (.slice (some ⟨g, 0, none⟩) k cap) ∧ Blk w' g (limbs (a * b) ++ R) ∧ (limbs (a * b)).length = k ∧ Wf R ∧ k + R.length ≤ 2000000000 ∧ k ≤ cap ∧ w.heap.size ≤ g ∧ Below w.heap.size w w' := by
  by_cases hlt : n < m
  · have h100 : n < 100 := by omega
    clear hs
    go_enter Tryz.func54, Tryz.ntmps54
    go_wp2_with fail
    refine (longB_any _ _ _ _ _ _ _ _ _ hb ha (by omega) (by omega)).mono ?_
    rintro e w2 ⟨g, k, cr, R, rfl, hr, hk, hR, hkr, hc, hg, hw2⟩
    go_wp2
    go_ret
    rw [num_limbs, num_limbs] at hr hk
    have e : ((b : Int) * a).toNat = a * b := by rw [← Int.natCast_mul, Int.toNat_natCast, Nat.mul_comm]
    rw [e] at hr hk
    exact ⟨g, k, cr, R, rfl, hr, hk, hR, hkr, hc, hg, hw2⟩
  · have h100 : m < 100 := by omega
    clear hs
    go_enter Tryz.func54, Tryz.ntmps54
    go_wp2_with fail
    refine (longB_any _ _ _ _ _ _ _ _ _ ha hb (by omega) (by omega)).mono ?_
    rintro e w2 ⟨g, k, cr, R, rfl, hr, hk, hR, hkr, hc, hg, hw2⟩
    go_wp2
    go_ret
    rw [num_limbs, num_limbs] at hr hk
    have e : ((a : Int) * b).toNat = a * b := by rw [← Int.natCast_mul, Int.toNat_natCast]
    rw [e] at hr hk
    exact ⟨g, k, cr, R, rfl, hr, hk, hR, hkr, hc, hg, hw2⟩

end Go.Proofs.YtapcecjbmcoliaaGreatDoor

namespace Go.Proofs.YtapcecjbmcoliaaGreatDoor
open Go Go.RowKit

theorem win_cell {w : World} {g o j : Nat} {P L R : List Int} (h : Blk w g (P ++ (L ++ R))) (ho : P.length = o) (hj : j < L.length) : w.cell? ⟨g, o + j, none⟩ = some (.int .u32 (L.getD j 0)) := by
  rw [h.cell (o + j) (by simp only [List.length_append]; omega)]
  subst ho
  congr 2
  unfold List.getD
  rw [List.getElem?_append_right (by omega), Nat.add_sub_cancel_left, List.getElem?_append_left hj]
theorem win_set {w : World} {g o j : Nat} {P L R : List Int} (h : Blk w g (P ++ (L ++ R))) (ho : P.length = o) (hj : j < L.length) (x : Int) : Blk (w.setCell ⟨g, o + j, none⟩ (.int .u32 x)) g (P ++ (L.set j x ++ R)) := by
  have := h.set (o + j) x
  subst ho
  rw [List.set_append_right _ _ (by omega), Nat.add_sub_cancel_left, List.set_append_left _ _ hj] at this
  exact this

set_option maxRecDepth 100000 in
set_option maxHeartbeats 1000000 in
theorem addTo_win (g o n cap m cb : Nat) (bo : Option Addr) (L ys : List Int) (w : World) (P R : List Int) (hP : P.length = o) (hL : Blk w g (P ++ (L ++ R))) (hl : L.length = n) (hw : Wf L) (hn : n ≤ 1099511627776)
    (hbl : ys.length = m) (hbw : Wf ys) (hmn : m ≤ n) (hst : Stay g w bo ys) (hfit : num L + num ys < 4294967296 ^ n) :
    Calls Tryz.prog 106 #[.slice (some ⟨g, o, none⟩) n cap, .slice bo m cb] w fun e w' => e = .returned (.tuple #[]) ∧ ∃ L', Blk w' g (P ++ (L' ++ R)) ∧ L'.length = n ∧ Wf L' ∧ num L' = num L + num ys ∧ Only g w w' := by
  have HL := Lib.hid hl; clear hl
  have HP := Lib.hid hP; clear hP
  have HB := Lib.hid hbl; clear hbl
  have HF := Lib.hid hfit; clear hfit
  go_enter Tryz.func106, Tryz.ntmps106
  go_wp2
  go_loopw [4, 5, 6, 10] (fun c i x j wr => ∃ (k : Nat) (cc : Int) (Lk : List Int), k ≤ m ∧ j = .int .i64 k ∧ c = .int .u64 cc ∧ 0 ≤ cc ∧ cc ≤ 1 ∧ Added L Lk k cc (num (ys.take k)) ∧ Blk wr g (P ++ (Lk ++ R)) ∧ Only g w wr)
    (fun _ _ _ j _ => m - (intOf j).toNat)
  case atStart => exact ⟨0, 0, L, Nat.zero_le _, rfl, rfl, by omega, by omega, Added.start hw, hL, Only.refl g w⟩
  case round =>
    obtain ⟨k, cc, Lk, hk, rfl, rfl, hc0, hc1, hA, hbk, ho⟩ := hrel
    by_cases hlt : k < m
    · obtain ⟨bb, ob, rfl, hcb⟩ := hst _ ho (by rw [HB.out]; omega)
      have c1 := hcb k (by rw [HB.out]; omega)
      clear hcb
      have c2 := win_cell hbk HP.out (j := k) (by rw [hA.1, HL.out]; omega)
      have c3 := hbk.frozen (o + k)
      rw [getD_of_drop hA.2.2.1] at c2
      have hxr := hw.getD k
      have hyr := hbw.getD k
      obtain ⟨x, hx⟩ : ∃ x, L.getD k 0 = x := ⟨_, rfl⟩
      obtain ⟨y, hy⟩ : ∃ y, ys.getD k 0 = y := ⟨_, rfl⟩
      rw [hx] at c2 hxr
      rw [hy] at c1 hyr
      have HX := Lib.hid hx; clear hx
      have HY := Lib.hid hy; clear hy
      obtain ⟨x0, x1⟩ := hxr
      obtain ⟨y0, y1⟩ := hyr
      go_wp2
      go_roundw
      case rel =>
        have st := hA.step (by rw [HL.out]; omega) y (cc + (x + y)) (by rw [HX.out])
        rw [← HY.out, ← num_take_succ ys k (by rw [HB.out]; exact hlt), HY.out] at st
        exact ⟨k + 1, _, _, by omega, by go_num, rfl, by omega, by omega, st, win_set hbk HP.out (by rw [hA.1, HL.out]; omega) _, ho.setCell _ _⟩
      case measure => simp [intOf] <;> omega
    · obtain rfl : k = m := by omega
      have HA := Lib.hid hA; clear hA
      go_wp2
      go_loopw [4, 7] (fun c j wr => ∃ (k : Nat) (cc : Int) (Lk : List Int), k ≤ n ∧ j = .int .i64 k ∧ c = .int .u64 cc ∧ 0 ≤ cc ∧ cc ≤ 1 ∧ Added L Lk k cc (num ys) ∧ Blk wr g (P ++ (Lk ++ R)) ∧ Only g w wr)
        (fun c j _ => (n - (intOf j).toNat) + (intOf c).toNat)
      case atStart =>
        have := HA.out
        rw [List.take_of_length_le (by rw [HB.out]; exact Nat.le_refl _)] at this
        exact ⟨k, cc, Lk, by omega, rfl, rfl, hc0, hc1, this, hbk, ho⟩
      case round =>
        obtain ⟨i, cc, Li, hi, rfl, rfl, hc0, hc1, hA, hbk, ho⟩ := hrel
        by_cases hcc : 0 < cc
        · have hin : i < n := by have := hA.fits (by rw [HL.out]; exact hi) (by rw [HL.out]; exact HF.out) hcc; rw [HL.out] at this; exact this
          have c2 := win_cell hbk HP.out (j := i) (by rw [hA.1, HL.out]; omega)
          have c3 := hbk.frozen (o + i)
          rw [getD_of_drop hA.2.2.1] at c2
          have hxr := hw.getD i
          obtain ⟨x, hx⟩ : ∃ x, L.getD i 0 = x := ⟨_, rfl⟩
          rw [hx] at c2 hxr
          have HX := Lib.hid hx; clear hx
          obtain ⟨x0, x1⟩ := hxr
          by_cases hx9 : x = 4294967295
          · subst hx9
            go_wp2
            go_roundw
            case rel =>
              have st := hA.step (by rw [HL.out]; omega) 0 4294967296 (by rw [HX.out]; omega)
              have e1 : (4294967296 : Int) % 4294967296 = 0 := by omega
              have e2 : (4294967296 : Int) / 4294967296 = cc := by omega
              rw [e1, e2, Int.mul_zero, Int.add_zero] at st
              exact ⟨i + 1, _, _, by omega, by go_num, rfl, hc0, hc1, st, win_set hbk HP.out (by rw [hA.1, HL.out]; omega) _, ho.setCell _ _⟩
            case measure => simp [intOf] <;> omega
          · have h9 : (x + 1 != 0) = true := by simp; omega
            go_wp2
            go_roundw
            case rel =>
              have st := hA.step (by rw [HL.out]; omega) 0 (x + 1) (by rw [HX.out]; omega)
              have e1 : (x + 1) % 4294967296 = x + 1 := by omega
              have e2 : (x + 1) / 4294967296 = 0 := by omega
              rw [e1, e2, Int.mul_zero, Int.add_zero] at st
              exact ⟨i + 1, _, _, by omega, by go_num, rfl, by omega, by omega, st, win_set hbk HP.out (by rw [hA.1, HL.out]; omega) _, ho.setCell _ _⟩
            case measure => simp [intOf] <;> omega
        · obtain rfl : cc = 0 := by omega
          go_wp2
          go_end0
          have hd := hA.done
          exact ⟨rfl, Li, hbk, by rw [hA.1, HL.out], hA.2.1, hd, ho⟩
end Go.Proofs.YtapcecjbmcoliaaGreatDoor

namespace Go.Proofs.YtapcecjbmcoliaaGreatDoor
open Go Go.RowKit

set_option maxRecDepth 100000 in
set_option maxHeartbeats 1000000 in
theorem subFrom_win (g o n cap m cb : Nat) (bo : Option Addr) (L ys : List Int) (w : World) (P R : List Int) (hP : P.length = o) (hL : Blk w g (P ++ (L ++ R))) (hl : L.length = n) (hw : Wf L) (hn : n ≤ 1099511627776)
    (hbl : ys.length = m) (hbw : Wf ys) (hmn : m ≤ n) (hst : Stay g w bo ys) (hfit : num ys ≤ num L) :
    Calls Tryz.prog 108 #[.slice (some ⟨g, o, none⟩) n cap, .slice bo m cb] w fun e w' => e = .returned (.tuple #[]) ∧ ∃ L', Blk w' g (P ++ (L' ++ R)) ∧ L'.length = n ∧ Wf L' ∧ num L' = num L - num ys ∧ Only g w w' := by
  have HL := Lib.hid hl; clear hl
  have HP := Lib.hid hP; clear hP
  have HB := Lib.hid hbl; clear hbl
  have HF := Lib.hid hfit; clear hfit
  go_enter Tryz.func108, Tryz.ntmps108
  go_wp2
  go_loopw [4, 5, 6, 7, 11] (fun c i x d j wr => ∃ (k : Nat) (cc : Int) (Lk : List Int), k ≤ m ∧ j = .int .i64 k ∧ c = .int .u64 cc ∧ 0 ≤ cc ∧ cc ≤ 1 ∧ Taken L Lk k cc (num (ys.take k)) ∧ Blk wr g (P ++ (Lk ++ R)) ∧ Only g w wr)
    (fun _ _ _ _ j _ => m - (intOf j).toNat)
  case atStart => exact ⟨0, 0, L, Nat.zero_le _, rfl, rfl, by omega, by omega, Taken.start hw, hL, Only.refl g w⟩
  case round =>
    obtain ⟨k, cc, Lk, hk, rfl, rfl, hc0, hc1, hA, hbk, ho⟩ := hrel
    by_cases hlt : k < m
    · obtain ⟨bb, ob, rfl, hcb⟩ := hst _ ho (by rw [HB.out]; omega)
      have c1 := hcb k (by rw [HB.out]; omega)
      clear hcb
      have c2 := win_cell hbk HP.out (j := k) (by rw [hA.1, HL.out]; omega)
      have c3 := hbk.frozen (o + k)
      rw [getD_of_drop hA.2.2.1] at c2
      have hxr := hw.getD k
      have hyr := hbw.getD k
      obtain ⟨x, hx⟩ : ∃ x, L.getD k 0 = x := ⟨_, rfl⟩
      obtain ⟨y, hy⟩ : ∃ y, ys.getD k 0 = y := ⟨_, rfl⟩
      rw [hx] at c2 hxr
      rw [hy] at c1 hyr
      have HX := Lib.hid hx; clear hx
      have HY := Lib.hid hy; clear hy
      obtain ⟨x0, x1⟩ := hxr
      obtain ⟨y0, y1⟩ := hyr
      go_wp2
      go_roundw
      case rel =>
        obtain ⟨s0, s1, s2⟩ := sub_word x y cc x0 x1 y0 y1 hc0 hc1
        have st := hA.step (by rw [HL.out]; omega) y _ _ ⟨Int.emod_nonneg _ (by omega), Int.emod_lt_of_pos _ (by omega)⟩ (s2.trans (by rw [HX.out]))
        rw [← HY.out, ← num_take_succ ys k (by rw [HB.out]; exact hlt), HY.out] at st
        exact ⟨k + 1, _, _, by omega, by go_num, rfl, s0, s1, st, win_set hbk HP.out (by rw [hA.1, HL.out]; omega) _, ho.setCell _ _⟩
      case measure => simp [intOf] <;> omega
    · obtain rfl : k = m := by omega
      have HA := Lib.hid hA; clear hA
      go_wp2
      go_loopw [4, 8] (fun c j wr => ∃ (k : Nat) (cc : Int) (Lk : List Int), k ≤ n ∧ j = .int .i64 k ∧ c = .int .u64 cc ∧ 0 ≤ cc ∧ cc ≤ 1 ∧ Taken L Lk k cc (num ys) ∧ Blk wr g (P ++ (Lk ++ R)) ∧ Only g w wr)
        (fun c j _ => (n - (intOf j).toNat) + (intOf c).toNat)
      case atStart =>
        have := HA.out
        rw [List.take_of_length_le (by rw [HB.out]; exact Nat.le_refl _)] at this
        exact ⟨k, cc, Lk, by omega, rfl, rfl, hc0, hc1, this, hbk, ho⟩
      case round =>
        obtain ⟨i, cc, Li, hi, rfl, rfl, hc0, hc1, hA, hbk, ho⟩ := hrel
        by_cases hcc : 0 < cc
        · have hin : i < n := by have := hA.fits (by rw [HL.out]; exact hi) HF.out hcc; rw [HL.out] at this; exact this
          have c2 := win_cell hbk HP.out (j := i) (by rw [hA.1, HL.out]; omega)
          have c3 := hbk.frozen (o + i)
          rw [getD_of_drop hA.2.2.1] at c2
          have hxr := hw.getD i
          obtain ⟨x, hx⟩ : ∃ x, L.getD i 0 = x := ⟨_, rfl⟩
          rw [hx] at c2 hxr
          have HX := Lib.hid hx; clear hx
          obtain ⟨x0, x1⟩ := hxr
          by_cases hx9 : x = 0
          · subst hx9
            go_wp2
            go_roundw
            case rel =>
              have st := hA.step (by rw [HL.out]; omega) 0 4294967295 cc (by omega) (by rw [HX.out]; omega)
              rw [Int.mul_zero, Int.add_zero] at st
              exact ⟨i + 1, _, _, by omega, by go_num, rfl, hc0, hc1, st, win_set hbk HP.out (by rw [hA.1, HL.out]; omega) _, ho.setCell _ _⟩
            case measure => simp [intOf] <;> omega
          · have h9 : (x != 0) = true := by simp; omega
            go_wp2
            go_roundw
            case rel =>
              have st := hA.step (by rw [HL.out]; omega) 0 (x - 1) 0 (by omega) (by rw [HX.out]; omega)
              rw [Int.mul_zero, Int.add_zero] at st
              exact ⟨i + 1, _, _, by omega, by go_num, rfl, by omega, by omega, st, win_set hbk HP.out (by rw [hA.1, HL.out]; omega) _, ho.setCell _ _⟩
            case measure => simp [intOf] <;> omega
        · obtain rfl : cc = 0 := by omega
          go_wp2
          go_end0
          have hd := hA.done
          exact ⟨rfl, Li, hbk, by rw [hA.1, HL.out], hA.2.1, hd, ho⟩
end Go.Proofs.YtapcecjbmcoliaaGreatDoor
