import Derived.Test.YthicfkeiggcjjaaGreatDoorEcDlU2
import Derived.OwnWalk
import Derived.Laws.Bits64
namespace Go.Proofs.YthicfkeiggcjjaaGreatDoor
open Go.RowKit

theorem Tryz.infoU32 : (Tryz.prog.info? 83).map (fun i => (i.zero, i.size, i.bytes)) = some (some (.int .u32 0), 1, 4) := by kernel_rfl

theorem Tryz.sizeU32 : (Tryz.prog.info? 83).map (·.size) = some 1 := by kernel_rfl

/-- 'make([]uint32, n)': a new block of zeros -/
theorem wpList_make_u32 (w : World) {ops : Array Oper} {rest : List Oper} {o : Oper} {a : Act} {Q : Exit → Act → World → Prop}
    (hg : o.guard = none) (l c : Operand) (hop : o.op = Op.makeSlice 50 l c) (L : Int) (n : Nat)
    (hl : a.eval l = .int .i64 L) (hc : a.eval c = .int .i64 L) (hL : L = (n : Int)) (hn : n ≤ 1099511627776)
    (hK : ∀ w', Blk w' w.heap.size (List.replicate n 0) → Below w.heap.size w w' → wpList Tryz.prog ops Q rest (a.put o.dst (.slice (some ⟨w.heap.size, 0, none⟩) n n)) w') :
    wpList Tryz.prog ops Q (o :: rest) a w := by
  obtain ⟨i0, hi, hz0, hz1, hz2⟩ := info_parts Tryz.infoU32
  refine wpList_make_full w hg l c 50 hop w.heap.size 83 i0 (.int .u32 0) 1 Tryz.underlying50 hi hz0 hz1 _ _ _ _ n hl hc hL hL (by rw [hz2]; omega) (by unfold maxLen; omega) (Nat.le_refl _) ?_
  intro w' ho hgr
  exact hK w' (blk_made ho rfl) ((Below.refl _ w).grown hgr (Nat.le_refl _) (fun k hk => by cases hk))

set_option maxRecDepth 100000 in
set_option maxHeartbeats 400000 in
theorem clone_any (ao : Option Addr) (n cap : Nat) (zs : List Int) (w : World) (h : Sl w ao n cap zs) :
    Calls Tryz.prog 92 #[.slice ao n cap] w fun e w' => e = .returned (.slice (some ⟨w.heap.size, 0, none⟩) n n) ∧ Blk w' w.heap.size zs ∧ Below w.heap.size w w' := by
  have hn := h.big
  go_enter Tryz.func92, Tryz.ntmps92
  go_wp2_with (refine wpList_make_u32 _ rfl _ _ rfl _ n rfl rfl rfl hn ?_)
  intro w1 hb1 hw1
  go_wp2_with (with_reducible refine wpList_copy_u32 rfl (.tmp 7) (.tmp 8) rfl Tryz.underlying50 Tryz.sizeU32 _ 0 n n ao n cap rfl rfl _ hb1 zs (h.below hw1) (Nat.le_refl _) (by simp) ?_)
  intro w2 hb2 hw2
  go_wp2
  go_ret
  refine ⟨rfl, ?_, hw1.trans (hw2.below (Nat.le_refl _))⟩
  have := h.len
  simpa [splice, this] using hb2
end Go.Proofs.YthicfkeiggcjjaaGreatDoor

namespace Go.Proofs.YthicfkeiggcjjaaGreatDoor
open Go.RowKit

/-- the first k rows of the product are in Lk, and nothing stands above them -/
def PRows (a b Lk : List Int) (n k : Nat) : Prop :=
  Lk.length = n + b.length ∧ Wf Lk ∧ num Lk = num a * num (b.take k) ∧ ∀ i, n + k ≤ i → Lk.getD i 0 = 0

theorem getD_replicate (n i : Nat) : (List.replicate n (0 : Int)).getD i 0 = 0 := by
  by_cases h : i < n <;> simp [List.getD, h]

theorem PRows.start (a b : List Int) (n m : Nat) (hm : b.length = m) : PRows a b (List.replicate (n + m) 0) n 0 :=
  ⟨by simp [hm], Wf.replicate _, by simp [num_replicate, num], fun i _ => getD_replicate _ i⟩

theorem mul_bounds {x y : Int} (x0 : 0 ≤ x) (x1 : x < 4294967296) (y0 : 0 ≤ y) (y1 : y < 4294967296) : 0 ≤ x * y ∧ x * y ≤ 18446744065119617025 := by
  refine ⟨Int.mul_nonneg x0 y0, ?_⟩
  have h1 : x * y ≤ 4294967295 * y := Int.mul_le_mul_of_nonneg_right (by omega) y0
  omega

theorem row_step (k j : Nat) (x y N : Int) : 4294967296 ^ k * (x * N) + 4294967296 ^ (k + j) * (x * y) = 4294967296 ^ k * (x * (N + 4294967296 ^ j * y)) := by
  rw [Int.pow_add, Int.mul_add, Int.mul_add, Int.mul_assoc, Int.mul_left_comm (4294967296 ^ j) x y]

theorem getD_of_drop_le {zs ys : List Int} {k i : Nat} (h : zs.drop k = ys.drop k) (hi : k ≤ i) : zs.getD i 0 = ys.getD i 0 := by
  have := congrArg (fun l => l.getD (i - k) 0) h
  simpa [List.getD, show k + (i - k) = i by omega] using this

theorem PRows.step {a b Lk L' : List Int} {n k : Nat} {x : Int} {i : Nat} (h : PRows a b Lk n k) (st : Added Lk L' (i + 1) 0 (4294967296 ^ k * (x * num a))) (hi : i = k + n) (hk : k < b.length) (hx : b.getD k 0 = x) :
    PRows a b L' n (k + 1) := by
  obtain ⟨h1, h2, h3, h4⟩ := h
  refine ⟨by rw [st.1, h1], st.2.1, ?_, ?_⟩
  · rw [st.done, h3, num_take_succ b k hk, hx, Int.mul_add]
    congr 1
    rw [Int.mul_comm x, Int.mul_left_comm]
  · intro j hj
    rw [getD_of_drop_le st.2.2.1 (by omega)]
    exact h4 j (by omega)

set_option maxRecDepth 100000 in
set_option maxHeartbeats 2000000 in
theorem long_any (xs ys : List Int) (ao bo : Option Addr) (n m ca cb : Nat) (w : World) (ha : Sl w ao n ca xs) (hb : Sl w bo m cb ys) (hn : n ≤ 1000000000) (hm : m ≤ 1000000000) :
    Calls Tryz.prog 86 #[.slice ao n ca, .slice bo m cb] w fun e w' => ∃ ao' k cap, e = .returned (.slice ao' k cap) ∧ Sl w' ao' k cap (limbs (num xs * num ys).toNat) ∧ Below w.heap.size w w' := by
  have hst := PRows.start xs ys n m hb.len
  have HS := Lib.hid hst; clear hst
  go_enter Tryz.func86, Tryz.ntmps86
  go_wp2_with (refine wpList_make_u32 _ rfl _ _ rfl _ (n + m) rfl rfl (by omega) (by omega) ?_)
  intro w1 hb1 hw1
  have ha1 := ha.below hw1
  have hb1' := hb.below hw1
  have hsa := ha.cells.stay_below hw1 (Nat.le_refl _)
  have hsb := hb.cells.stay_below hw1 (Nat.le_refl _)
  generalize hg : w.heap.size = g at *
  have HG := Lib.hid hg; clear hg
  go_wp2
  go_loopw [6, 7, 8, 9, 10, 11, 20, 35] (fun _ _ _ _ _ _ i _ wr => ∃ (k : Nat) (Lk : List Int), k ≤ m ∧ i = .int .i64 k ∧ PRows xs ys Lk n k ∧ Blk wr g Lk ∧ Only g w1 wr)
    (fun _ _ _ _ _ _ i _ _ => m - (intOf i).toNat)
  case atStart => exact ⟨0, _, Nat.zero_le _, rfl, HS.out, hb1, Only.refl g w1⟩
  case round =>
    obtain ⟨k, Lk, hk, rfl, hP, hbk, ho⟩ := hrel
    by_cases hlt : k < m
    · obtain ⟨bb, ob, rfl, hcb⟩ := hsb _ ho (by rw [hb.len]; omega)
      have c1 := hcb k (by rw [hb.len]; omega)
      clear hcb
      have hxr := hb.wf.getD k
      obtain ⟨x, hx⟩ : ∃ x, ys.getD k 0 = x := ⟨_, rfl⟩
      rw [hx] at c1 hxr
      have HX := Lib.hid hx; clear hx
      obtain ⟨x0, x1⟩ := hxr
      have HP := Lib.hid hP; clear hP
      go_wp2
      go_loopw [9, 10, 11, 35] (fun c _ _ i wr => ∃ (j : Nat) (cc : Int) (Li : List Int), j ≤ n ∧ i = .int .i64 j ∧ c = .int .u64 cc ∧ 0 ≤ cc ∧ cc ≤ 4294967295 ∧ Added Lk Li (k + j) cc (4294967296 ^ k * (x * num (xs.take j))) ∧ Blk wr g Li ∧ Only g w1 wr)
        (fun _ _ _ i _ => n - (intOf i).toNat)
      case atStart => exact ⟨0, 0, Lk, Nat.zero_le _, rfl, rfl, by omega, by omega, Added.at HP.out.2.1 k, hbk, ho⟩
      case round =>
        obtain ⟨j, cc, Li, hj, rfl, rfl, hc0, hc1, hA, hbi, hoi⟩ := hrel
        have hlen : Li.length = n + m := by rw [hA.1, HP.out.1, hb.len]
        have hlen2 : Lk.length = n + m := by rw [HP.out.1, hb.len]
        by_cases hjt : j < n
        · obtain ⟨ba, oa, rfl, hca⟩ := hsa _ hoi (by rw [ha.len]; omega)
          have c2 := hca j (by rw [ha.len]; omega)
          clear hca
          have hyr := ha.wf.getD j
          obtain ⟨y, hy⟩ : ∃ y, xs.getD j 0 = y := ⟨_, rfl⟩
          rw [hy] at c2 hyr
          have HY := Lib.hid hy; clear hy
          obtain ⟨y0, y1⟩ := hyr
          have c3 := hbi.cell (k + j) (by omega)
          have c4 := hbi.frozen (k + j)
          rw [getD_of_drop hA.2.2.1] at c3
          have hzr := HP.out.2.1.getD (k + j)
          obtain ⟨z, hz⟩ : ∃ z, Lk.getD (k + j) 0 = z := ⟨_, rfl⟩
          rw [hz] at c3 hzr
          have HZ := Lib.hid hz; clear hz
          obtain ⟨z0, z1⟩ := hzr
          obtain ⟨p0, p1⟩ := mul_bounds x0 x1 y0 y1
          have HLn := Lib.hid hlen; clear hlen
          have HLn2 := Lib.hid hlen2; clear hlen2
          go_wp2
          go_roundw
          case rel =>
            have st := hA.step (by rw [HLn2.out]; omega) (x * y) (cc + (x * y + z)) (by rw [HZ.out]; omega)
            rw [row_step, ← HY.out, ← num_take_succ xs j (by rw [ha.len]; exact hjt), HY.out] at st
            exact ⟨j + 1, _, _, by omega, by go_num, rfl, by omega, by omega, st, hbi.set _ _, hoi.setCell _ _⟩
          case measure => simp [intOf] <;> omega
        · obtain rfl : j = n := by omega
          have HLn := Lib.hid hlen; clear hlen
          have HLn2 := Lib.hid hlen2; clear hlen2
          have c4 := hbi.frozen (k + j)
          have c3 := hbi.cell (k + j) (by rw [HLn.out]; omega)
          go_wp2
          go_roundw
          case rel =>
            have hz0 := HP.out.2.2.2 (k + j) (by omega)
            have st := hA.step (by rw [HLn2.out]; omega) 0 cc (by rw [hz0]; omega)
            rw [Int.emod_eq_of_lt hc0 (by omega), Int.ediv_eq_zero_of_lt hc0 (by omega), Int.mul_zero, Int.add_zero, List.take_of_length_le (by rw [ha.len]; exact Nat.le_refl _)] at st
            exact ⟨k + 1, _, by omega, by go_num, HP.out.step st (by omega) (by rw [hb.len]; exact hlt) HX.out, hbi.set _ _, hoi.setCell _ _⟩
          case measure => simp [intOf] <;> omega
    · obtain rfl : k = m := by omega
      have hlen : Lk.length = n + k := by rw [hP.1, hb.len]
      have HLn := Lib.hid hlen; clear hlen
      have HP := Lib.hid hP; clear hP
      go_wp2_with fail
      refine (trim_sl _ _ _ Lk wr (hbk.sl HP.out.2.1 HLn.out (by omega) (Nat.le_refl _))).mono ?_
      rintro e w4 ⟨i, rfl, hs, rfl⟩
      go_wp2
      go_ret
      refine ⟨_, i, _, rfl, ?_, by rw [HG.out]; exact hw1.trans (ho.below (Nat.le_refl _))⟩
      rw [HP.out.2.2.1, List.take_of_length_le (by rw [hb.len]; exact Nat.le_refl _)] at hs
      exact hs
end Go.Proofs.YthicfkeiggcjjaaGreatDoor

namespace Go.Proofs.YthicfkeiggcjjaaGreatDoor
open Go.RowKit

/-- one limb less another one less the borrow -/
theorem sub_word (x y c : Int) (x0 : 0 ≤ x) (x1 : x < 4294967296) (y0 : 0 ≤ y) (y1 : y < 4294967296) (c0 : 0 ≤ c) (c1 : c ≤ 1) :
    0 ≤ IntKind.u64.wrap (IntKind.u64.wrap (x - y) - c) / 9223372036854775808 ∧ IntKind.u64.wrap (IntKind.u64.wrap (x - y) - c) / 9223372036854775808 ≤ 1 ∧
    IntKind.u64.wrap (IntKind.u64.wrap (x - y) - c) % 4294967296 = x - y - c + 4294967296 * (IntKind.u64.wrap (IntKind.u64.wrap (x - y) - c) / 9223372036854775808) := by
  rw [IntKind.wrap_u64, IntKind.wrap_u64]
  omega

set_option maxRecDepth 100000 in
set_option maxHeartbeats 1000000 in
theorem subFrom_any (g n cap m cb : Nat) (bo : Option Addr) (L ys : List Int) (w : World) (hL : Blk w g L) (hl : L.length = n) (hw : Wf L) (hn : n ≤ 1099511627776)
    (hbl : ys.length = m) (hbw : Wf ys) (hmn : m ≤ n) (hst : Stay g w bo ys) (hfit : num ys ≤ num L) :
    Calls Tryz.prog 93 #[.slice (some ⟨g, 0, none⟩) n cap, .slice bo m cb] w fun e w' => e = .returned (.tuple #[]) ∧ ∃ L', Blk w' g L' ∧ L'.length = n ∧ Wf L' ∧ num L' = num L - num ys ∧ Only g w w' := by
  have HL := Lib.hid hl; clear hl
  have HB := Lib.hid hbl; clear hbl
  have HF := Lib.hid hfit; clear hfit
  go_enter Tryz.func93, Tryz.ntmps93
  go_wp2
  go_loopw [4, 5, 6, 7, 11] (fun c i x d j wr => ∃ (k : Nat) (cc : Int) (Lk : List Int), k ≤ m ∧ j = .int .i64 k ∧ c = .int .u64 cc ∧ 0 ≤ cc ∧ cc ≤ 1 ∧ Taken L Lk k cc (num (ys.take k)) ∧ Blk wr g Lk ∧ Only g w wr)
    (fun _ _ _ _ j _ => m - (intOf j).toNat)
  case atStart => exact ⟨0, 0, L, Nat.zero_le _, rfl, rfl, by omega, by omega, Taken.start hw, hL, Only.refl g w⟩
  case round =>
    obtain ⟨k, cc, Lk, hk, rfl, rfl, hc0, hc1, hA, hbk, ho⟩ := hrel
    by_cases hlt : k < m
    · obtain ⟨bb, ob, rfl, hcb⟩ := hst _ ho (by rw [HB.out]; omega)
      have c1 := hcb k (by rw [HB.out]; omega)
      clear hcb
      have c2 := hbk.cell k (by rw [hA.1, HL.out]; omega)
      have c3 := hbk.frozen k
      rw [getD_of_drop hA.2.2.1] at c2
      have hxr := hw.getD k
      have hyr := hbw.getD k
      obtain ⟨x, hx⟩ : ∃ x, L.getD k 0 = x := ⟨_, rfl⟩
      obtain ⟨y, hy⟩ : ∃ y, ys.getD k 0 = y := ⟨_, rfl⟩
      rw [hx] at c2 hxr
      rw [hy] at c1 hyr
      have HX := Lib.hid hx; clear hx
      have HY := Lib.hid hy; clear hy
      obtain ⟨x0, x1⟩ := hxr
      obtain ⟨y0, y1⟩ := hyr
      go_wp2
      go_roundw
      case rel =>
        obtain ⟨s0, s1, s2⟩ := sub_word x y cc x0 x1 y0 y1 hc0 hc1
        have st := hA.step (by rw [HL.out]; omega) y _ _ ⟨Int.emod_nonneg _ (by omega), Int.emod_lt_of_pos _ (by omega)⟩ (s2.trans (by rw [HX.out]))
        rw [← HY.out, ← num_take_succ ys k (by rw [HB.out]; exact hlt), HY.out] at st
        exact ⟨k + 1, _, _, by omega, by go_num, rfl, s0, s1, st, hbk.set _ _, ho.setCell _ _⟩
      case measure => simp [intOf] <;> omega
    · obtain rfl : k = m := by omega
      have HA := Lib.hid hA; clear hA
      go_wp2
      go_loopw [4, 8] (fun c j wr => ∃ (k : Nat) (cc : Int) (Lk : List Int), k ≤ n ∧ j = .int .i64 k ∧ c = .int .u64 cc ∧ 0 ≤ cc ∧ cc ≤ 1 ∧ Taken L Lk k cc (num ys) ∧ Blk wr g Lk ∧ Only g w wr)
        (fun c j _ => (n - (intOf j).toNat) + (intOf c).toNat)
      case atStart =>
        have := HA.out
        rw [List.take_of_length_le (by rw [HB.out]; exact Nat.le_refl _)] at this
        exact ⟨k, cc, Lk, by omega, rfl, rfl, hc0, hc1, this, hbk, ho⟩
      case round =>
        obtain ⟨i, cc, Li, hi, rfl, rfl, hc0, hc1, hA, hbk, ho⟩ := hrel
        by_cases hcc : 0 < cc
        · have hin : i < n := by have := hA.fits (by rw [HL.out]; exact hi) HF.out hcc; rw [HL.out] at this; exact this
          have c2 := hbk.cell i (by rw [hA.1, HL.out]; omega)
          have c3 := hbk.frozen i
          rw [getD_of_drop hA.2.2.1] at c2
          have hxr := hw.getD i
          obtain ⟨x, hx⟩ : ∃ x, L.getD i 0 = x := ⟨_, rfl⟩
          rw [hx] at c2 hxr
          have HX := Lib.hid hx; clear hx
          obtain ⟨x0, x1⟩ := hxr
          by_cases hx9 : x = 0
          · subst hx9
            go_wp2
            go_roundw
            case rel =>
              have st := hA.step (by rw [HL.out]; omega) 0 4294967295 cc (by omega) (by rw [HX.out]; omega)
              rw [Int.mul_zero, Int.add_zero] at st
              exact ⟨i + 1, _, _, by omega, by go_num, rfl, hc0, hc1, st, hbk.set _ _, ho.setCell _ _⟩
            case measure => simp [intOf] <;> omega
          · have h9 : (x != 0) = true := by simp; omega
            go_wp2
            go_roundw
            case rel =>
              have st := hA.step (by rw [HL.out]; omega) 0 (x - 1) 0 (by omega) (by rw [HX.out]; omega)
              rw [Int.mul_zero, Int.add_zero] at st
              exact ⟨i + 1, _, _, by omega, by go_num, rfl, by omega, by omega, st, hbk.set _ _, ho.setCell _ _⟩
            case measure => simp [intOf] <;> omega
        · obtain rfl : cc = 0 := by omega
          go_wp2
          go_end0
          have hd := hA.done
          exact ⟨rfl, Li, hbk, by rw [hA.1, HL.out], hA.2.1, hd, ho⟩
end Go.Proofs.YthicfkeiggcjjaaGreatDoor

namespace Go.Proofs.YthicfkeiggcjjaaGreatDoor
open Go.RowKit

theorem num_take_next (zs : List Int) (k : Nat) : num (zs.take (k + 1)) = num (zs.take k) + 4294967296 ^ k * zs.getD k 0 := by
  by_cases h : k < zs.length
  · exact num_take_succ zs k h
  · rw [List.take_of_length_le (by omega), List.take_of_length_le (by omega), List.getD, List.getElem?_eq_none (by omega)]
    simp

end Go.Proofs.YthicfkeiggcjjaaGreatDoor
