import Derived.Test.YtlpclahlolhjfaaGreatDoorCards
import Derived.Test.YtlpclahlolhjfaaGreatDoorTie
import Derived.Test.YtlpclahlolhjfaaGreatDoorMoCoU1
import Derived.WalkKit
import Derived.ProofKit
import Derived.OpenShut
import Derived.Deep.DeepHandedRow
import Derived.Lib.LaidTab
import Derived.Lib.SmallJoins
import Derived.LaidMore
import Derived.Test.YtlpclahlolhjfaaGreatDoorRows
import Derived.WalkSpells
import Derived.WalkLawsBesides
import Derived.OwnWalk
import Derived.Deep.QuietTactic
import Derived.BigQuiet
namespace Go.Proofs.YtlpclahlolhjfaaGreatDoor
open Go.ChangeShapes Go.WideShapes Go.ChangeAt Go.RowKit Go.Joins

theorem Tryz.own : ownKnob Tryz.prog.godebug = none := by kernel_rfl
theorem Tryz.laidOut : laidOutB Tryz.prog = true := by kernel_rfl
end Go.Proofs.YtlpclahlolhjfaaGreatDoor

namespace Go.Proofs.YtlpclahlolhjfaaGreatDoor
theorem Tryz.cellsInt : Tryz.prog.cellsOf 3 = 1 := by kernel_rfl
end Go.Proofs.YtlpclahlolhjfaaGreatDoor

namespace Go.Proofs.YtlpclahlolhjfaaGreatDoor
open Go.RowKit

set_option maxHeartbeats 400000 in
theorem trim_any (ao : Option Addr) (n cap : Nat) (zs : List Int) (w : World) (hl : zs.length = n) (hn : n ≤ 1099511627776) (hcap : n ≤ cap) (ha : At w ao zs) :
    Calls Tryz.prog 57 #[.slice ao n cap] w fun e w' => e = .returned (.slice ao (tlen zs n) cap) ∧ w = w' := by
  have HL := Lib.hid hl; clear hl
  go_enter Tryz.func57, Tryz.ntmps57
  go_wp2
  go_loop [3] (fun i => ∃ k : Nat, k ≤ n ∧ i = .int .i64 k ∧ tlen zs n = tlen zs k) (fun i => (intOf i).toNat)
  case atStart => exact ⟨n, Nat.le_refl _, rfl, rfl⟩
  case round =>
    obtain ⟨k, hk, rfl, ht⟩ := hrel
    have HT := Lib.hid ht; clear ht
    by_cases h0 : 0 < k
    · obtain ⟨m, rfl⟩ : ∃ m, k = m + 1 := ⟨k - 1, by omega⟩
      obtain ⟨b, off, rfl, hc⟩ := ha (by rw [HL.out]; omega)
      have hcell := hc m (by rw [HL.out]; omega)
      clear hc ha
      go_wp2
      · have h1 : (zs[m]?.getD 0 == 0) = true := by assumption
        go_round
        case rel => exact ⟨m, by omega, by go_num, by rw [HT.out, tlen, if_pos (by simpa [List.getD] using h1)]⟩
        case measure => simp [intOf]
      · have h1 : (zs[m]?.getD 0 == 0) = false := by assumption
        go_ret
        refine ⟨?_, rfl⟩
        rw [HT.out, tlen, if_neg (by simpa [List.getD] using h1)]; rfl
    · obtain rfl : k = 0 := by omega
      clear ha
      go_wp2
      go_ret
      refine ⟨?_, rfl⟩
      rw [HT.out]; rfl

/-- trim gives the limbs of the number, in the same world -/
theorem trim_sl (ao : Option Addr) (n cap : Nat) (zs : List Int) (w : World) (h : Sl w ao n cap zs) :
    Calls Tryz.prog 57 #[.slice ao n cap] w fun e w' => ∃ k, e = .returned (.slice ao k cap) ∧ Sl w ao k cap (limbs (num zs).toNat) ∧ w = w' :=
  (trim_any ao n cap zs w h.len h.big h.cap h.cells).mono fun _ _ ⟨he, hw⟩ => ⟨_, he, h.trim, hw⟩

/-- the same length in every world -/
theorem trim_at (ao : Option Addr) (n cap : Nat) (zs : List Int) (w : World) (h : Sl w ao n cap zs) :
    ∃ k, k ≤ n ∧ Sl w ao k cap (limbs (num zs).toNat) ∧ ∀ W, Sl W ao n cap zs → Calls Tryz.prog 57 #[.slice ao n cap] W fun e w' => e = .returned (.slice ao k cap) ∧ W = w' :=
  ⟨_, tlen_le _ _, h.trim, fun W hW => trim_any ao n cap zs W hW.len hW.big hW.cap hW.cells⟩
end Go.Proofs.YtlpclahlolhjfaaGreatDoor

namespace Go.Proofs.YtlpclahlolhjfaaGreatDoor
open Go.RowKit

theorem Tryz.infoU32 : (Tryz.prog.info? 66).map (fun i => (i.zero, i.size, i.bytes)) = some (some (.int .u32 0), 1, 4) := by kernel_rfl

theorem Tryz.sizeU32 : (Tryz.prog.info? 66).map (·.size) = some 1 := by kernel_rfl

/-- 'make([]uint32, n)': a new block of zeros -/
theorem wpList_make_u32 (w : World) {ops : Array Oper} {rest : List Oper} {o : Oper} {a : Act} {Q : Exit → Act → World → Prop}
    (hg : o.guard = none) (l c : Operand) (hop : o.op = Op.makeSlice 25 l c) (L : Int) (n : Nat)
    (hl : a.eval l = .int .i64 L) (hc : a.eval c = .int .i64 L) (hL : L = (n : Int)) (hn : n ≤ 1099511627776)
    (hK : ∀ w', Blk w' w.heap.size (List.replicate n 0) → Below w.heap.size w w' → wpList Tryz.prog ops Q rest (a.put o.dst (.slice (some ⟨w.heap.size, 0, none⟩) n n)) w') :
    wpList Tryz.prog ops Q (o :: rest) a w := by
  obtain ⟨i0, hi, hz0, hz1, hz2⟩ := info_parts Tryz.infoU32
  refine wpList_make_full w hg l c 25 hop w.heap.size 66 i0 (.int .u32 0) 1 Tryz.underlying25 hi hz0 hz1 _ _ _ _ n hl hc hL hL (by rw [hz2]; omega) (by unfold maxLen; omega) (Nat.le_refl _) ?_
  intro w' ho hgr
  exact hK w' (blk_made ho rfl) ((Below.refl _ w).grown hgr (Nat.le_refl _) (fun k hk => by cases hk))

set_option maxRecDepth 100000 in
set_option maxHeartbeats 400000 in
theorem clone_any (ao : Option Addr) (n cap : Nat) (zs : List Int) (w : World) (h : Sl w ao n cap zs) :
    Calls Tryz.prog 89 #[.slice ao n cap] w fun e w' => e = .returned (.slice (some ⟨w.heap.size, 0, none⟩) n n) ∧ Blk w' w.heap.size zs ∧ Below w.heap.size w w' := by
  have hn := h.big
  go_enter Tryz.func89, Tryz.ntmps89
  go_wp2_with (refine wpList_make_u32 _ rfl _ _ rfl _ n rfl rfl rfl hn ?_)
  intro w1 hb1 hw1
  go_wp2_with (with_reducible refine wpList_copy_u32 rfl (.tmp 7) (.tmp 8) rfl Tryz.underlying25 Tryz.sizeU32 _ 0 n n ao n cap rfl rfl _ hb1 zs (h.below hw1) (Nat.le_refl _) (by simp) ?_)
  intro w2 hb2 hw2
  go_wp2
  go_ret
  refine ⟨rfl, ?_, hw1.trans (hw2.below (Nat.le_refl _))⟩
  have := h.len
  simpa [splice, this] using hb2
end Go.Proofs.YtlpclahlolhjfaaGreatDoor

namespace Go.Proofs.YtlpclahlolhjfaaGreatDoor
open Go.RowKit

set_option maxRecDepth 100000 in
set_option maxHeartbeats 400000 in
theorem signed_zero (nb : Bool) (ao : Option Addr) (cap : Nat) (w : World) :
    Calls Tryz.prog 55 #[.bool nb, .slice ao 0 cap] w fun e w' => e = .returned (.agg #[.bool false, .slice none 0 0]) ∧ Below w.heap.size w w' := by
  go_enter Tryz.func55, Tryz.ntmps55
  go_wp2
  exact bodyPost_ret (v := .agg #[.bool false, .slice none 0 0]) (by simp [results, Tryz.results55, go_sem]) rfl ⟨rfl, ((Below.refl _ _).alloc (Nat.le_refl _) _)⟩
set_option maxRecDepth 100000 in
set_option maxHeartbeats 400000 in
theorem signed_pos (nb : Bool) (ao : Option Addr) (n cap : Nat) (w : World) (h : 0 < n) :
    Calls Tryz.prog 55 #[.bool nb, .slice ao n cap] w fun e w' => e = .returned (.agg #[.bool nb, .slice ao n cap]) ∧ Below w.heap.size w w' := by
  have hn : ((n : Int) == 0) = false := beq_eq_false_iff_ne.2 (by omega)
  go_enter Tryz.func55, Tryz.ntmps55
  go_wp2
  exact bodyPost_ret (v := .agg #[.bool nb, .slice ao n cap]) (by simp [results, Tryz.results55, go_sem]) rfl ⟨rfl, ((Below.refl _ _).alloc (Nat.le_refl _) _)⟩

/-- whatever the limbs: they stay, and zero is not negative -/
theorem signed_any (nb : Bool) (ao : Option Addr) (n cap : Nat) (zs : List Int) (w : World) (h : Sl w ao n cap zs) :
    Calls Tryz.prog 55 #[.bool nb, .slice ao n cap] w fun e w' => ∃ ao' cap', e = .returned (.agg #[.bool (nb && decide (0 < n)), .slice ao' n cap']) ∧ Sl w' ao' n cap' zs ∧ Below w.heap.size w w' := by
  by_cases h0 : 0 < n
  · refine (signed_pos nb ao n cap w h0).mono fun e w' ⟨he, hw⟩ => ⟨ao, cap, ?_, h.below hw, hw⟩
    rw [he]; simp [h0]
  · obtain rfl : n = 0 := by omega
    have hz : zs = [] := List.eq_nil_of_length_eq_zero h.len
    subst hz
    exact (signed_zero nb ao cap w).mono fun e w' ⟨he, hw⟩ => ⟨none, 0, by rw [he]; simp, Sl.nil w', hw⟩
end Go.Proofs.YtlpclahlolhjfaaGreatDoor

namespace Go.Proofs.YtlpclahlolhjfaaGreatDoor
open Go.RowKit

set_option maxRecDepth 100000 in
set_option maxHeartbeats 400000 in
theorem cmpInt_any (x y : Int) (w : World) : Calls Tryz.prog 72 #[.int .i64 x, .int .i64 y] w fun e w' => e = .returned (.int .i64 (sgn3 x y)) ∧ w = w' := by
  have hx : (x != x) = false := by simp
  have hy : (y != y) = false := by simp
  by_cases h1 : x < y
  · have e : sgn3 x y = -1 := by simp [sgn3, h1]
    have E := Lib.hid e; clear e
    go_enter Tryz.func72, Tryz.ntmps72
    go_wp2_with go_in
    go_ret
    exact ⟨by rw [E.out]; rfl, rfl⟩
  · by_cases h2 : y < x
    · have e : sgn3 x y = 1 := by simp [sgn3, h1, h2]
      have E := Lib.hid e; clear e
      go_enter Tryz.func72, Tryz.ntmps72
      go_wp2_with go_in
      go_ret
      exact ⟨by rw [E.out]; rfl, rfl⟩
    · have e : sgn3 x y = 0 := by simp [sgn3, h1, h2]
      have E := Lib.hid e; clear e
      go_enter Tryz.func72, Tryz.ntmps72
      go_wp2_with go_in
      go_ret
      exact ⟨by rw [E.out]; rfl, rfl⟩

set_option maxRecDepth 100000 in
set_option maxHeartbeats 400000 in
theorem cmpU32_any (x y : Int) (w : World) : Calls Tryz.prog 110 #[.int .u32 x, .int .u32 y] w fun e w' => e = .returned (.int .i64 (sgn3 x y)) ∧ w = w' := by
  have hx : (x != x) = false := by simp
  have hy : (y != y) = false := by simp
  by_cases h1 : x < y
  · have e : sgn3 x y = -1 := by simp [sgn3, h1]
    have E := Lib.hid e; clear e
    go_enter Tryz.func110, Tryz.ntmps110
    go_wp2_with go_in
    go_ret
    exact ⟨by rw [E.out]; rfl, rfl⟩
  · by_cases h2 : y < x
    · have e : sgn3 x y = 1 := by simp [sgn3, h1, h2]
      have E := Lib.hid e; clear e
      go_enter Tryz.func110, Tryz.ntmps110
      go_wp2_with go_in
      go_ret
      exact ⟨by rw [E.out]; rfl, rfl⟩
    · have e : sgn3 x y = 0 := by simp [sgn3, h1, h2]
      have E := Lib.hid e; clear e
      go_enter Tryz.func110, Tryz.ntmps110
      go_wp2_with go_in
      go_ret
      exact ⟨by rw [E.out]; rfl, rfl⟩

set_option maxRecDepth 100000 in
set_option maxHeartbeats 1000000 in
theorem compare_any (a b : Nat) (ao bo : Option Addr) (n m ca cb : Nat) (w : World) (ha : Sl w ao n ca (limbs a)) (hb : Sl w bo m cb (limbs b)) :
    Calls Tryz.prog 73 #[.slice ao n ca, .slice bo m cb] w fun e w' => e = .returned (.int .i64 (sgn3 a b)) ∧ ∃ q, w' = w.drewN q := by
  have hna := ha.big
  have hnb := hb.big
  by_cases hnm : n = m
  · subst hnm
    have h0 : ((n : Int) != n) = false := by simp
    go_enter Tryz.func73, Tryz.ntmps73
    go_wp2
    go_loopw [5] (fun i wr => ∃ k q : Nat, k ≤ n ∧ i = .int .i64 ((k : Int) - 1) ∧ (limbs a).drop k = (limbs b).drop k ∧ wr = w.drewN q) (fun i _ => (intOf i + 1).toNat)
    case atStart => exact ⟨n, 0, Nat.le_refl _, rfl, by rw [List.drop_eq_nil_of_le (by rw [ha.len]; exact Nat.le_refl _), List.drop_eq_nil_of_le (by rw [hb.len]; exact Nat.le_refl _)], rfl⟩
    case round =>
      obtain ⟨k, q, hk, rfl, hd, hw⟩ := hrel
      have HD := Lib.hid hd; clear hd
      subst hw
      by_cases hlt : 0 < k
      · obtain ⟨j, rfl⟩ : ∃ j, k = j + 1 := ⟨k - 1, by omega⟩
        obtain ⟨ba, oa, rfl, hca⟩ := ha.cells (by rw [ha.len]; omega)
        obtain ⟨bb, ob, rfl, hcb⟩ := hb.cells (by rw [hb.len]; omega)
        have c1 := hca j (by rw [ha.len]; omega)
        have c2 := hcb j (by rw [hb.len]; omega)
        clear hca hcb
        obtain ⟨x, hx⟩ : ∃ x, (limbs a).getD j 0 = x := ⟨_, rfl⟩
        obtain ⟨y, hy⟩ : ∃ y, (limbs b).getD j 0 = y := ⟨_, rfl⟩
        rw [hx] at c1
        rw [hy] at c2
        have HX := Lib.hid hx; clear hx
        have HY := Lib.hid hy; clear hy
        have ej : ((j + 1 : Nat) : Int) - 1 = (j : Int) := by omega
        rw [ej]
        clear ej
        by_cases hxy : x = y
        · subst hxy
          have hxx : (x != x) = false := by simp
          go_wp2
          go_quiet (fail)
          go_wp2
          go_roundw
          case rel => exact ⟨j, q + nq, by omega, by go_num, drop_eq_cons (by rw [ha.len]; omega) (by rw [hb.len]; omega) HD.out (by rw [HX.out, HY.out]), by simp [World.drewN]⟩
          case measure => simp [intOf] <;> omega
        · have hxx : (x != y) = true := by simp [hxy]
          have HN := Lib.hid hxy; clear hxy
          go_wp2
          go_quiet (fail)
          go_wp2
          go_quiet ((go_at_call 110; exact quiet_add_left (cmpU32_any _ _ _)))
          go_wp2
          go_ret
          refine ⟨?_, _, by rw [World.drewN_drewN, World.drewN_drewN]⟩
          have := sgn3_limb (a := a) (b := b) (by rw [ha.len, hb.len]) j (by rw [ha.len]; omega) HD.out (by rw [HX.out, HY.out]; exact HN.out)
          rw [HX.out, HY.out] at this
          rw [← this]; rfl
      · obtain rfl : k = 0 := by omega
        clear ha hb
        go_wp2
        go_ret
        refine ⟨?_, q, rfl⟩
        have hd := HD.out
        rw [List.drop_zero, List.drop_zero] at hd
        obtain rfl := limbs_inj hd
        simp [sgn3]
  · have h0 : ((n : Int) != m) = true := by simp; omega
    go_enter Tryz.func73, Tryz.ntmps73
    go_wp2_with (go_at_call 72; refine (cmpInt_any _ _ _).mono ?_; rintro e w' ⟨rfl, rfl⟩)
    go_ret
    refine ⟨?_, 0, rfl⟩
    have := sgn3_lens (a := a) (b := b) (by rw [ha.len, hb.len]; exact hnm)
    rw [ha.len, hb.len] at this
    rw [← this]; rfl
end Go.Proofs.YtlpclahlolhjfaaGreatDoor
