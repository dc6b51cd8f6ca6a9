import Derived.Test.YthicfkeiggcjjaaGreatDoorEcDlU43
import Derived.Test.YthicfkeiggcjjaaGreatDoorEcDlU7
import Derived.Lib.ConvBytes
import Derived.Lib.AtoiErrMem
import Derived.Laws.Strings3
import Derived.Lib.ItoaWalk
import Derived.Lib.Strings
import Derived.Test.YthicfkeiggcjjaaGreatDoorEcDlU4
import Derived.Deep.AppendLies
import Derived.Deep.LoopGhost
import Derived.Laws.IdiomStrings
import Derived.Test.YthicfkeiggcjjaaGreatDoorEcDlU15
import Derived.Deep.QuietTactic
import Derived.Deep.CutRange
import Derived.Deep.RegionHeld3
import Derived.Deep.RegionWith
import Derived.Test.YthicfkeiggcjjaaGreatDoorEcDlU8
namespace Go.Proofs.YthicfkeiggcjjaaGreatDoor
open Go Go.RowKit

set_option maxRecDepth 100000 in
set_option maxHeartbeats 2000000 in
theorem longN_any (xs ys : List Int) (ao bo : Option Addr) (n m ca cb : Nat) (w : World) (ha : Sl w ao n ca xs) (hb : Sl w bo m cb ys) (hn : n ≤ 1000000000) (hm : m ≤ 1000000000) :
    Calls Tryz.prog 86 #[.slice ao n ca, .slice bo m cb] w fun e w' => ∃ ao' k cap, e = .returned (.slice ao' k cap) ∧ Sl w' ao' k cap (limbs (num xs * num ys).toNat) ∧ NewA w.heap.size ao' k ∧ Below w.heap.size w w' := by
  have hst := PRows.start xs ys n m hb.len
  have HS := Lib.hid hst; clear hst
  go_enter Tryz.func86, Tryz.ntmps86
  go_wp2_with (refine wpList_make_u32 _ rfl _ _ rfl _ (n + m) rfl rfl (by omega) (by omega) ?_)
  intro w1 hb1 hw1
  have ha1 := ha.below hw1
  have hb1' := hb.below hw1
  have hsa := ha.cells.stay_below hw1 (Nat.le_refl _)
  have hsb := hb.cells.stay_below hw1 (Nat.le_refl _)
  generalize hg : w.heap.size = g at *
  have HG := Lib.hid hg; clear hg
  go_wp2
  go_loopw [6, 7, 8, 9, 10, 11, 20, 35] (fun _ _ _ _ _ _ i _ wr => ∃ (k : Nat) (Lk : List Int), k ≤ m ∧ i = .int .i64 k ∧ PRows xs ys Lk n k ∧ Blk wr g Lk ∧ Only g w1 wr)
    (fun _ _ _ _ _ _ i _ _ => m - (intOf i).toNat)
  case atStart => exact ⟨0, _, Nat.zero_le _, rfl, HS.out, hb1, Only.refl g w1⟩
  case round =>
    obtain ⟨k, Lk, hk, rfl, hP, hbk, ho⟩ := hrel
    by_cases hlt : k < m
    · obtain ⟨bb, ob, rfl, hcb⟩ := hsb _ ho (by rw [hb.len]; omega)
      have c1 := hcb k (by rw [hb.len]; omega)
      clear hcb
      have hxr := hb.wf.getD k
      obtain ⟨x, hx⟩ : ∃ x, ys.getD k 0 = x := ⟨_, rfl⟩
      rw [hx] at c1 hxr
      have HX := Lib.hid hx; clear hx
      obtain ⟨x0, x1⟩ := hxr
      have HP := Lib.hid hP; clear hP
      go_wp2
      go_loopw [9, 10, 11, 35] (fun c _ _ i wr => ∃ (j : Nat) (cc : Int) (Li : List Int), j ≤ n ∧ i = .int .i64 j ∧ c = .int .u64 cc ∧ 0 ≤ cc ∧ cc ≤ 4294967295 ∧ Added Lk Li (k + j) cc (4294967296 ^ k * (x * num (xs.take j))) ∧ Blk wr g Li ∧ Only g w1 wr)
        (fun _ _ _ i _ => n - (intOf i).toNat)
      case atStart => exact ⟨0, 0, Lk, Nat.zero_le _, rfl, rfl, by omega, by omega, Added.at HP.out.2.1 k, hbk, ho⟩
      case round =>
        obtain ⟨j, cc, Li, hj, rfl, rfl, hc0, hc1, hA, hbi, hoi⟩ := hrel
        have hlen : Li.length = n + m := by rw [hA.1, HP.out.1, hb.len]
        have hlen2 : Lk.length = n + m := by rw [HP.out.1, hb.len]
        by_cases hjt : j < n
        · obtain ⟨ba, oa, rfl, hca⟩ := hsa _ hoi (by rw [ha.len]; omega)
          have c2 := hca j (by rw [ha.len]; omega)
          clear hca
          have hyr := ha.wf.getD j
          obtain ⟨y, hy⟩ : ∃ y, xs.getD j 0 = y := ⟨_, rfl⟩
          rw [hy] at c2 hyr
          have HY := Lib.hid hy; clear hy
          obtain ⟨y0, y1⟩ := hyr
          have c3 := hbi.cell (k + j) (by omega)
          have c4 := hbi.frozen (k + j)
          rw [getD_of_drop hA.2.2.1] at c3
          have hzr := HP.out.2.1.getD (k + j)
          obtain ⟨z, hz⟩ : ∃ z, Lk.getD (k + j) 0 = z := ⟨_, rfl⟩
          rw [hz] at c3 hzr
          have HZ := Lib.hid hz; clear hz
          obtain ⟨z0, z1⟩ := hzr
          obtain ⟨p0, p1⟩ := mul_bounds x0 x1 y0 y1
          have HLn := Lib.hid hlen; clear hlen
          have HLn2 := Lib.hid hlen2; clear hlen2
          go_wp2
          go_roundw
          case rel =>
            have st := hA.step (by rw [HLn2.out]; omega) (x * y) (cc + (x * y + z)) (by rw [HZ.out]; omega)
            rw [row_step, ← HY.out, ← num_take_succ xs j (by rw [ha.len]; exact hjt), HY.out] at st
            exact ⟨j + 1, _, _, by omega, by go_num, rfl, by omega, by omega, st, hbi.set _ _, hoi.setCell _ _⟩
          case measure => simp [intOf] <;> omega
        · obtain rfl : j = n := by omega
          have HLn := Lib.hid hlen; clear hlen
          have HLn2 := Lib.hid hlen2; clear hlen2
          have c4 := hbi.frozen (k + j)
          have c3 := hbi.cell (k + j) (by rw [HLn.out]; omega)
          go_wp2
          go_roundw
          case rel =>
            have hz0 := HP.out.2.2.2 (k + j) (by omega)
            have st := hA.step (by rw [HLn2.out]; omega) 0 cc (by rw [hz0]; omega)
            rw [Int.emod_eq_of_lt hc0 (by omega), Int.ediv_eq_zero_of_lt hc0 (by omega), Int.mul_zero, Int.add_zero, List.take_of_length_le (by rw [ha.len]; exact Nat.le_refl _)] at st
            exact ⟨k + 1, _, by omega, by go_num, HP.out.step st (by omega) (by rw [hb.len]; exact hlt) HX.out, hbi.set _ _, hoi.setCell _ _⟩
          case measure => simp [intOf] <;> omega
    · obtain rfl : k = m := by omega
      have hlen : Lk.length = n + k := by rw [hP.1, hb.len]
      have HLn := Lib.hid hlen; clear hlen
      have HP := Lib.hid hP; clear hP
      go_wp2_with fail
      refine (trim_sl _ _ _ Lk wr (hbk.sl HP.out.2.1 HLn.out (by omega) (Nat.le_refl _))).mono ?_
      rintro e w4 ⟨i, rfl, hs, rfl⟩
      go_wp2
      go_ret
      refine ⟨_, i, _, rfl, ?_, fun _ => ⟨_, rfl, Nat.le_of_eq HG.out⟩, by rw [HG.out]; exact hw1.trans (ho.below (Nat.le_refl _))⟩
      rw [HP.out.2.2.1, List.take_of_length_le (by rw [hb.len]; exact Nat.le_refl _)] at hs
      exact hs

set_option maxRecDepth 100000 in
set_option maxHeartbeats 1000000 in
theorem timesN_any (a b : Nat) (ao bo : Option Addr) (n m ca cb : Nat) (w : World) (ha : Sl w ao n ca (limbs a)) (hb : Sl w bo m cb (limbs b)) (hn : n ≤ 1000000000) (hm : m ≤ 1000000000) (hs : n < 100 ∨ m < 100) :
    Calls Tryz.prog 68 #[.slice ao n ca, .slice bo m cb] w fun e w' => ∃ ao' k cap, e = .returned (.slice ao' k cap) ∧ Sl w' ao' k cap (limbs (a * b)) ∧ NewA w.heap.size ao' k ∧ Below w.heap.size w w' := by
  by_cases hlt : n < m
  · have h100 : n < 100 := by omega
    clear hs
    go_enter Tryz.func68, Tryz.ntmps68
    go_wp2_with fail
    refine (longN_any _ _ _ _ _ _ _ _ _ hb ha (by omega) (by omega)).mono ?_
    rintro e w2 ⟨ro, k, cr, rfl, hr, hnw, hw2⟩
    go_wp2
    go_ret
    refine ⟨ro, k, cr, rfl, ?_, hnw, hw2⟩
    rw [num_limbs, num_limbs] at hr
    have e : ((b : Int) * a).toNat = a * b := by rw [← Int.natCast_mul, Int.toNat_natCast, Nat.mul_comm]
    rwa [e] at hr
  · have h100 : m < 100 := by omega
    clear hs
    go_enter Tryz.func68, Tryz.ntmps68
    go_wp2_with fail
    refine (longN_any _ _ _ _ _ _ _ _ _ ha hb (by omega) (by omega)).mono ?_
    rintro e w2 ⟨ro, k, cr, rfl, hr, hnw, hw2⟩
    go_wp2
    go_ret
    refine ⟨ro, k, cr, rfl, ?_, hnw, hw2⟩
    rw [num_limbs, num_limbs] at hr
    have e : ((a : Int) * b).toNat = a * b := by rw [← Int.natCast_mul, Int.toNat_natCast]
    rwa [e] at hr

theorem Tryz.infoHdr : (Tryz.prog.info? 50).map (fun i => (i.zero, i.size, i.bytes)) = some (some (.slice none 0 0), 1, 24) := by kernel_rfl

theorem Sl.of_block {w w' : World} {g n ca : Nat} {zs : List Int} (h : Sl w (some ⟨g, 0, none⟩) n ca zs) (hb : w'.heap[g]? = w.heap[g]?) : Sl w' (some ⟨g, 0, none⟩) n ca zs := by
  refine ⟨h.len, h.cap, h.big, h.wf, fun h0 => ?_⟩
  obtain ⟨b, off, e, hc⟩ := h.cells h0
  have e' := e
  injection e' with e'
  injection e' with e1 e2
  subst e1
  refine ⟨g, off, e, fun j hj => ?_⟩
  have e3 : w'.cell? ⟨g, off + j, none⟩ = w.cell? ⟨g, off + j, none⟩ := World.cell?_of_block (w := w) hb
  rw [e3]; exact hc j hj
theorem Sl.lt_block {w : World} {g n ca : Nat} {zs : List Int} (h : Sl w (some ⟨g, 0, none⟩) n ca zs) (h0 : 0 < n) : g < w.heap.size := by
  obtain ⟨b, off, e, hc⟩ := h.cells (by rw [h.len]; exact h0)
  injection e with e
  injection e with e1 e2
  subst e1
  exact lt_of_cell (hc 0 (by rw [h.len]; exact h0))

/-- the powers of 10^9 that the call has put into its list of slices -/
structure PW (w : World) (B : Nat) (pv : Value) (K : Nat) : Prop where
  own : ∃ hs, w.ownsRow B 50 1 pv K hs ∧ ∀ j, j < K → ∃ g n ca, hs[j]? = some (.slice (some ⟨g, 0, none⟩) n ca) ∧ Sl w (some ⟨g, 0, none⟩) n ca (limbs (1000000000 ^ 2 ^ j)) ∧ 0 < n ∧ n ≤ 100000000 ∧ pv.ownBlock ≠ some g
theorem PW.nil (w : World) (B : Nat) : PW w B (.slice none 0 0) 0 := ⟨[], World.ownsRow_nil w B _ _, fun j hj => absurd hj (by omega)⟩
theorem PW.below {w w' : World} {B : Nat} {pv : Value} {K : Nat} (h : PW w B pv K) (hb : Below w.heap.size w w') : PW w' B pv K := by
  obtain ⟨hs, h1, h2⟩ := h.own
  refine ⟨hs, ?_, fun j hj => ?_⟩
  · obtain ⟨h3, h4⟩ := h1
    refine ⟨h3, ?_⟩
    rcases h4 with h4 | ⟨g, cap, cur, hv, hbb, hg, r⟩
    · exact .inl h4
    · exact .inr ⟨g, cap, cur, hv, hbb, by rw [hb.block g (Array.getElem?_eq_some_iff.1 hg).1]; exact hg, r⟩
  · obtain ⟨g, n, ca, e1, e2, e3, e4, e5⟩ := h2 j hj
    exact ⟨g, n, ca, e1, e2.below hb, e3, e4, e5⟩
theorem PW.form {w : World} {B : Nat} {pv : Value} {K : Nat} (h : PW w B pv K) : ∃ po pc, pv = .slice po K pc ∧ K ≤ pc ∧ pc ≤ maxLen ∧ (∀ k, pv.ownBlock = some k → k < w.heap.size) ∧ LP w po K pc := by
  obtain ⟨hs, h1, h2⟩ := h.own
  have hlt := fun k hk => (World.ownsRow.lt h1 k hk).2
  obtain ⟨h3, h4⟩ := h1
  rcases h4 with ⟨rfl, rfl⟩ | ⟨g, cap, cur, rfl, hbb, hg, hn, hm, hz, ht⟩
  · exact ⟨none, 0, rfl, Nat.le_refl _, by decide, hlt, ⟨Nat.le_refl _, fun h0 => absurd h0 (by omega)⟩⟩
  · refine ⟨_, cap, rfl, hn, hm, hlt, hn, fun h0 => ⟨g, 0, rfl, fun j hj => ?_⟩⟩
    obtain ⟨gj, n, ca, e1, e2, e3, e4, e5⟩ := h2 j hj
    refine ⟨_, n, ca, ?_, e2, e4⟩
    rw [Nat.zero_add, cell_of_row w g j _ _ _ hg]
    have : (cur.toList.take (K * 1))[j]? = hs[j]? := by rw [ht]
    rw [List.getElem?_take, if_pos (by omega)] at this
    simp only [Array.getElem?_toList] at this
    rw [this]; exact e1

set_option maxRecDepth 100000 in
set_option maxHeartbeats 4000000 in
theorem wpList_append_power (w0 : World) {ops : Array Oper} {rest : List Oper} {o : Oper} {a : Act} {Q : Exit → Act → World → Prop} (hgd : o.guard = none) (s x : Operand)
    (ho : o.op = .call { callee := .builtin .append, args := #[s, x], argTypes := #[101, 101] })
    (B : Nat) (v : Value) (K g n ca : Nat) (hs : a.eval s = v) (hx : a.eval x = .slice (some ⟨w0.heap.size, 0, none⟩) 1 1) (hown : PW w0 B v K) (hB : B ≤ w0.heap.size) (hK : K ≤ 1000000)
    (hp : Sl w0 (some ⟨g, 0, none⟩) n ca (limbs (1000000000 ^ 2 ^ K))) (h0 : 0 < n) (hn : n ≤ 100000000) (hne : v.ownBlock ≠ some g)
    (h : ∀ v' w', PW w' B v' (K + 1) → Below B w0 w' → Sl w' (some ⟨g, 0, none⟩) n ca (limbs (1000000000 ^ 2 ^ K)) → v'.ownBlock ≠ some g → wpList Tryz.prog ops Q rest (a.put o.dst v') w') :
    wpList Tryz.prog ops Q (o :: rest) a (w0.alloc (.cells #[.slice (some ⟨g, 0, none⟩) n ca] 50)) := by
  obtain ⟨i0, hi, hz0, hz1, hz2⟩ := info_parts Tryz.infoHdr
  obtain ⟨L, h1, h2⟩ := hown.own
  have hlt0 := hp.lt_block h0
  have hlt1 := fun k hk => World.ownsRow.lt h1 k hk
  refine wpList_append_lies _ hgd s x 101 ho B 50 i0 (.slice none 0 0) 1 24 Tryz.underlying101 hi hz0 hz1 hz2 rfl (by decide) v K L hs (World.ownsRow.alloc h1 _) ⟨w0.heap.size, 0, none⟩ 1 1 [.slice (some ⟨g, 0, none⟩) n ca] hx rfl ?_ ?_ (by decide) (by unfold maxLen; omega) (by omega) (by simp; omega) (w0.heap.size + 1) (by simp) ?_
  · intro j u hj
    have hn : (w0.alloc (.cells #[.slice (some ⟨g, 0, none⟩) n ca] 50)).heap[w0.heap.size]? = some (.cells #[.slice (some ⟨g, 0, none⟩) n ca] 50 (0, 0)) := heap_alloc_new w0 _
    rcases j with _ | j
    · rw [Addr.add_lit, Nat.zero_add, cell_of_row _ w0.heap.size 0 _ _ _ hn]; exact hj
    · simp at hj
  · intro u hu; rw [List.mem_singleton] at hu; subst hu; rfl
  · intro g' cap w' r1 r2 r3 r4
    have hblk : ∀ k, k < w0.heap.size → v.ownBlock ≠ some k → w'.heap[k]? = w0.heap[k]? := fun k hk hne => by
      rw [r2.block k (by simp; omega) (fun e => hne e.symm), Below.heap_alloc _ _ _ hk]
    have hg' : ∀ k, k < w0.heap.size → v.ownBlock ≠ some k → Value.ownBlock (.slice (some ⟨g', 0, none⟩) (K + 1) cap) ≠ some k := fun k hk hne e => by
      have e2 : g' = k := by simpa [Value.ownBlock] using e
      subst e2
      rcases r3 with r3 | r3
      · exact hne r3
      · omega
    refine h _ w' ⟨L ++ [.slice (some ⟨g, 0, none⟩) n ca], r1, fun j hj => ?_⟩ ?_ (hp.of_block (hblk g hlt0 hne)) (hg' g hlt0 hne)
    · have hl1 : L.length = K := by rw [h1.1]; omega
      rcases Nat.lt_or_ge j K with hjk | hjk
      · obtain ⟨gj, nj, cj, e1, e2, e3, e4, e5⟩ := h2 j hjk
        have hj0 := e2.lt_block e3
        exact ⟨gj, nj, cj, by rw [List.getElem?_append_left (by omega)]; exact e1, e2.of_block (hblk gj hj0 e5), e3, e4, hg' gj hj0 e5⟩
      · obtain rfl : j = K := by omega
        exact ⟨g, n, ca, by rw [List.getElem?_append_right (by omega), hl1]; simp, hp.of_block (hblk g hlt0 hne), h0, hn, hg' g hlt0 hne⟩
    · refine ((Below.refl B w0).alloc hB _).grown r2 (by simp; omega) ?_
      intro k hk
      exact (hlt1 k hk).1

/-- the powers double their digits -/
theorem pow9_succ (K : Nat) : 1000000000 ^ 2 ^ (K + 1) = 1000000000 ^ 2 ^ K * 1000000000 ^ 2 ^ K := by
  rw [Nat.pow_succ, Nat.mul_two, Nat.pow_add]
theorem pow9_limbs (K v : Nat) (h : (limbs v).length < 100) (hK : 1000000000 ^ 2 ^ K ≤ v) : K ≤ 6 := by
  rcases Nat.lt_or_ge 6 K with h6 | h6
  · exfalso
    have h2 : v < 4294967296 ^ 99 := (limbs_len_le v 99).1 (by omega)
    have h4 : 2 ^ 7 ≤ 2 ^ K := Nat.pow_le_pow_right (by omega) h6
    have h5 : 1000000000 ^ 2 ^ 7 ≤ 1000000000 ^ 2 ^ K := Nat.pow_le_pow_right (by omega) h4
    have h7 : (4294967296 : Nat) ^ 99 < 1000000000 ^ 2 ^ 7 := by decide
    omega
  · exact h6

set_option maxRecDepth 100000 in
set_option maxHeartbeats 4000000 in
theorem groups_any (v : Nat) (mo : Option Addr) (n cap : Nat) (w : World) (hs : Sl w mo n cap (limbs v)) (hn : n < 100) :
    Calls Tryz.prog 53 #[.slice mo n cap] w fun e w' => ∃ g K, e = .returned (.slice (some ⟨g, 0, none⟩) (2 ^ K) (2 ^ K)) ∧ Blk w' g ((digs K v).map Int.ofNat) ∧ v < 1000000000 ^ 2 ^ K ∧ 2 ^ K ≤ 128 ∧ w.heap.size ≤ g ∧ Below w.heap.size w w' := by
  have hl := hs.len
  have HL := Lib.hid hl
  clear hl
  have h9 : limbs (1000000000 ^ 2 ^ 0) = [(1000000000 : Int)] := by
    rw [limbs_pos (by decide), show 1000000000 ^ 2 ^ 0 / 4294967296 = 0 by decide, limbs_zero]; rfl
  have hp0 : Sl (w.alloc (.cells #[.int .u32 1000000000] 83)) (some ⟨w.heap.size, 0, none⟩) 1 1 (limbs (1000000000 ^ 2 ^ 0)) := by
    rw [h9]
    refine ⟨rfl, Nat.le_refl _, by decide, by rw [← h9]; exact Wf.limbs _, fun _ => ⟨w.heap.size, 0, rfl, fun j hj => ?_⟩⟩
    have hnw : (w.alloc (.cells #[.int .u32 1000000000] 83)).heap[w.heap.size]? = some (.cells #[.int .u32 1000000000] 83 (0, 0)) := heap_alloc_new w _
    obtain rfl : j = 0 := by simpa using hj
    rw [Nat.add_zero, cell_of_row _ w.heap.size 0 _ _ _ hnw]; rfl
  clear h9
  have hb0 : Below w.heap.size w (w.alloc (.cells #[.int .u32 1000000000] 83)) := (Below.refl _ w).alloc (Nat.le_refl _) _
  go_enter Tryz.func53, Tryz.ntmps53
  go_wp2
  generalize w.alloc (.cells #[.int .u32 1000000000] 83) = w0 at *
  obtain ⟨B, hB⟩ : ∃ B, w.heap.size = B := ⟨_, rfl⟩
  rw [hB] at hp0 hb0
  rw [hB]
  go_loopg [3, 4] (v + 1) (fun gk pw pv wr => ∃ (K g k ca : Nat), pw = .slice (some ⟨g, 0, none⟩) k ca ∧ PW wr B pv K ∧ Sl wr (some ⟨g, 0, none⟩) k ca (limbs (1000000000 ^ 2 ^ K)) ∧ pv.ownBlock ≠ some g ∧ K ≤ 7 ∧ v + 1 - 1000000000 ^ 2 ^ K ≤ gk ∧ B ≤ wr.heap.size ∧ Below B w wr)
  case atStart => exact ⟨0, B, 1, 1, rfl, PW.nil _ _, hp0, by simp [Value.ownBlock], by omega, by omega, by have := hb0.size; omega, hb0⟩
  case round =>
    obtain ⟨K, g, k, ca, rfl, hpw, hp, hne, hK, hgk, hBs, hbw⟩ := hrel
    obtain ⟨P, hP⟩ : ∃ P, 1000000000 ^ 2 ^ K = P := ⟨_, rfl⟩
    have hP0 : P ≠ 0 := by rw [← hP]; exact pow9_pos K
    have hPs := pow9_succ K
    have h6 := pow9_limbs K v (by rw [HL.out]; exact hn)
    rw [hP] at hp hgk hPs h6
    have hk0 : 0 < k := by
      rw [← hp.len]
      rcases Nat.eq_zero_or_pos (limbs P).length with h | h
      · exact absurd (limbs_inj ((List.eq_nil_of_length_eq_zero h).trans limbs_zero.symm)) hP0
      · exact h
    have hm1 := hs.below (hbw.mono (Nat.le_of_eq hB))
    have CM := Lib.hid (compare_any v P _ _ _ _ _ _ wr hm1 hp)
    obtain ⟨sg, hsg⟩ : ∃ sg, sgn3 (v : Int) P = sg := ⟨_, rfl⟩
    rw [hsg] at CM
    have HBW := Lib.hid hbw
    have HHP := Lib.hid hP
    have HPS := Lib.hid hPs
    clear hP hPs hbw hm1 hb0 hp0
    rcases Nat.lt_or_ge v P with hlt | hge
    · have hsg0 : ¬ (0 ≤ sg) := by rw [← hsg]; simp [sgn3]; omega
      clear hsg
      go_wp2_with fail
      refine CM.out.mono ?_
      rintro e w1 ⟨rfl, q, hw1⟩
      have hb1 : Below wr.heap.size wr w1 := by rw [hw1]; exact below_drewN (Below.refl _ _) q
      clear hw1
      have hpw1 := hpw.below hb1
      have hBs1 : B ≤ w1.heap.size := Nat.le_trans hBs hb1.size
      have hBW1 := HBW.out.trans (hb1.mono hBs)
      have hm1 := hs.below (hBW1.mono (Nat.le_of_eq hB))
      obtain ⟨po, pc, rfl, hKp, hpcm, hob, hlp⟩ := hpw1.form
      have HK := Lib.hid hpw1
      clear hpw hp hb1 h6 CM hob hlp hpw1
      obtain ⟨N, hN⟩ : ∃ N, 2 ^ K = N := ⟨_, rfl⟩
      have hN7 : N ≤ 128 := by rw [← hN]; exact Nat.pow_le_pow_right (n := 2) (by omega) hK
      have hsh : wrap64 (2 ^ K) = (N : Int) := by
        have h2 : (2 : Int) ^ K = (N : Int) := by rw [← hN]; exact (Int.natCast_pow 2 K).symm
        rw [h2]; unfold wrap64; omega
      have HNN := Lib.hid hN
      clear hN
      have HSH := Lib.hid hsh
      clear hsh
      go_wp2_with (refine wpList_make_u32 _ rfl _ _ rfl _ N rfl rfl HSH.out (by omega) ?_)
      intro w2 hb2 hw2
      have hg2 := hb2.lt
      have HO := Lib.hid (show B ≤ w1.heap.size ∧ Below B w w2 from ⟨hBs1, hBW1.trans (hw2.mono hBs1)⟩)
      obtain ⟨G, hG⟩ : ∃ G, w1.heap.size = G := ⟨_, rfl⟩
      have HLP := Lib.hid (show ∀ w', But G w2 w' → LP w' po K pc from fun w' h => by
        have hbb : Below w1.heap.size w1 w' := hw2.trans (h.below hw2.size (Nat.le_of_eq hG))
        obtain ⟨po', pc', e, -, -, -, hlp⟩ := (HK.out.below hbb).form
        injection e with e1 e2 e3
        subst e1; subst e3; exact hlp)
      have HM := Lib.hid (show ∀ w', But G w2 w' → Sl w' mo n cap (limbs v) from fun w' h => hm1.below (hw2.trans (h.below hw2.size (Nat.le_of_eq hG))))
      rw [hG] at hb2 hg2
      rw [hG]
      have SP := Lib.hid (split_any K v N (by rw [HHP.out]; exact hlt) HNN.out (by omega) mo po n cap pc G 0 N (List.replicate N 0) w2 HM.out HLP.out hb2 (by rw [List.drop_zero, List.take_of_length_le (by simp)]) (by simp) (Nat.le_refl _) (by omega) (by unfold maxLen at hpcm; omega) (by omega))
      have HG := Lib.hid hG
      clear hw2 hb2 hm1 hG hBW1 hBs1
      go_wp2_with fail
      refine SP.out.mono ?_
      rintro e w3 ⟨rfl, hb3, hbt⟩
      have E1 : putW (List.replicate N 0) 0 ((digs K v).map Int.ofNat) = (digs K v).map Int.ofNat := by
        unfold putW
        rw [List.drop_eq_nil_of_le (by rw [List.length_map, digs_zero_len, List.length_replicate, HNN.out]; omega)]; simp
      rw [E1] at hb3
      have H3 := Lib.hid hb3
      clear hb3 E1
      go_wp2
      go_ret
      refine ⟨G, K, by rw [HNN.out]; rfl, H3.out, by rw [HHP.out]; exact hlt, by rw [HNN.out]; exact hN7, by rw [hB, ← HG.out]; exact HO.out.1, ?_⟩
      rw [hB]
      exact HO.out.2.trans (hbt.below (by have := HO.out.2.size; omega) (by rw [← HG.out]; exact HO.out.1))
    · have hsg0 : 0 ≤ sg := by rw [← hsg]; simp [sgn3]; omega
      clear hsg
      go_wp2_with fail
      refine CM.out.mono ?_
      rintro e w1 ⟨rfl, q, hw1⟩
      have hb1 : Below wr.heap.size wr w1 := by rw [hw1]; exact below_drewN (Below.refl _ _) q
      clear hw1
      have hpw1 := hpw.below hb1
      have hp1 := hp.below hb1
      have hBs1 : B ≤ w1.heap.size := Nat.le_trans hBs hb1.size
      have hK6 := h6 hge
      have hk9 : k ≤ n := by rw [← hp.len, ← HL.out]; exact limbs_mono hge
      have HB1 := Lib.hid (HBW.out.trans (hb1.mono hBs))
      clear hpw hp hb1 h6 CM
      rw [← HHP.out] at hp1
      go_wp2_with (at_builtin; refine wpList_append_power _ rfl (.tmp 11) (.tmp 13) rfl B _ K g k ca rfl rfl hpw1 hBs1 (by omega) hp1 hk0 (by omega) hne ?_)
      intro pv w2 hpw2 hb2 hp2 hne2
      rw [HHP.out] at hp2
      have hbs2 : B ≤ w2.heap.size := Nat.le_trans hBs1 hb2.size
      have hob2 := hpw2.form
      have HP2 := Lib.hid hpw2
      have HO2 := Lib.hid (show ∀ q, pv.ownBlock = some q → q < w2.heap.size by obtain ⟨_, _, _, _, _, h, _⟩ := hob2; exact h)
      clear hpw1 hp1 hne hpw2 hob2
      go_wp2_with fail
      refine (timesN_any P P _ _ k k ca ca w2 hp2 hp2 (by omega) (by omega) (Or.inl (by omega))).mono ?_
      rintro e w3 ⟨ao', k', ca', rfl, hp3, hnew, hb3⟩
      have hk1 : 0 < k' := by
        rw [← hp3.len]
        rcases Nat.eq_zero_or_pos (limbs (P * P)).length with h | h
        · exact absurd (limbs_inj ((List.eq_nil_of_length_eq_zero h).trans limbs_zero.symm)) (Nat.mul_ne_zero hP0 hP0)
        · exact h
      obtain ⟨g', rfl, hg'⟩ := hnew hk1
      have HP3 := Lib.hid (HP2.out.below hb3)
      have hne3 : pv.ownBlock ≠ some g' := fun e => by have := HO2.out g' e; omega
      have hbs3 : B ≤ w3.heap.size := Nat.le_trans hbs2 hb3.size
      have HB3 := Lib.hid ((HB1.out.trans hb2).trans (hb3.mono hbs2))
      have HS3 := Lib.hid hp3
      have hPP : P < P * P := by
        have : 2 ≤ P := by rw [← HHP.out]; exact Nat.one_lt_pow (Nat.ne_of_gt (Nat.pow_pos (by omega))) (by omega)
        have := Nat.mul_le_mul_right P this
        omega
      have hlt' : v + 1 - P * P < gk := by omega
      clear hp2 hp3 hnew hb3 hb2
      go_wp2
      go_roundg (v + 1 - P * P)
      case measure => exact hlt'
      case rel => exact ⟨K + 1, g', k', ca', rfl, HP3.out, by rw [HPS.out]; exact HS3.out, hne3, by omega, by rw [HPS.out]; exact Nat.le_refl _, hbs3, HB3.out⟩
end Go.Proofs.YthicfkeiggcjjaaGreatDoor

namespace Go.Proofs.YthicfkeiggcjjaaGreatDoor
open Go Go.RowKit
open Go.Lib (decDigits)

/-- the text of an integer -/
def texI (x : Int) : List UInt8 := (if x < 0 then [45] else []) ++ decDigits x.natAbs
end Go.Proofs.YthicfkeiggcjjaaGreatDoor
