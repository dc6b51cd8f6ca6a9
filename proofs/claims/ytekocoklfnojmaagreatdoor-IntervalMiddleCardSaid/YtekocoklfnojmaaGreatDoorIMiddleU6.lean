import Derived.Test.YtekocoklfnojmaaGreatDoorIMiddleU5
import Derived.Shelf.Small.Bits
import Derived.Shelf.Bits.Mul64
import Derived.Shelf.Spec.BitsCarry
import Derived.Test.YtekocoklfnojmaaGreatDoorProg
import Derived.Test.YtekocoklfnojmaaGreatDoorIMiddleU2
import Derived.OwnWalk
import Derived.Deep.QuietTactic
import Derived.BigQuiet
namespace Go.Proofs.YtekocoklfnojmaaGreatDoor

theorem kept_lt {N k : Nat} (hk : Nat.log2 N + 1 ≤ 53 + k) : N / 2 ^ k < 9007199254740992 := by
  rw [Nat.div_lt_iff_lt_mul (Nat.pow_pos (by omega)), show (9007199254740992 : Nat) = 2 ^ 53 by decide, ← Nat.pow_add]
  refine Nat.lt_of_lt_of_le (Nat.lt_log2_self (n := N)) (Nat.pow_le_pow_right (by omega) hk)

theorem fla_le (neg : Bool) (N : Nat) (e : Int) (t : Bool) (mode : Int) : fla neg N e t mode ≤ 9218868437227405312 := by
  unfold fla
  split
  · split <;> omega
  · rename_i h
    have hP : fplace N e = max (e + (Nat.log2 N : Int) - 52) (-1074) := rfl
    split
    · rename_i h1
      obtain ⟨k, hk⟩ : ∃ k : Nat, (e - fplace N e).toNat = k := ⟨_, rfl⟩
      obtain ⟨p, hp⟩ : ∃ p : Nat, (fplace N e + 1074).toNat = p := ⟨_, rfl⟩
      rw [hk, hp]
      have hlt : N * 2 ^ k < 9007199254740992 := by
        rw [show (9007199254740992 : Nat) = 2 ^ 53 by decide]
        have h2 : N * 2 ^ k < 2 ^ (Nat.log2 N + 1) * 2 ^ k := Nat.mul_lt_mul_of_pos_right (Nat.lt_log2_self (n := N)) (Nat.pow_pos (by omega))
        rw [← Nat.pow_add] at h2
        exact Nat.lt_of_lt_of_le h2 (Nat.pow_le_pow_right (by omega) (by omega))
      have hp2 : p ≤ 2045 := by omega
      generalize N * 2 ^ k = x at *
      omega
    · rename_i h1
      obtain ⟨k, hk⟩ : ∃ k : Nat, (fplace N e - e).toNat = k := ⟨_, rfl⟩
      obtain ⟨p, hp⟩ : ∃ p : Nat, (fplace N e + 1074).toNat = p := ⟨_, rfl⟩
      rw [hk, hp]
      have hlt := kept_lt (N := N) (k := k) (by omega)
      have hp2 : p ≤ 2045 := by omega
      generalize N / 2 ^ k = x at *
      split <;> omega

theorem nan_mag {f : Nat} (s : Bool) (h : f ≤ 9218868437227405312) : nanB (sgz s + f) = false ∧ sgz s + f < 18446744073709551616 := by
  have h1 := sgz_le s
  have h2 : fmag (sgz s + f) = f := by unfold fmag sgz; split <;> omega
  exact ⟨decide_eq_false (by omega), by omega⟩
theorem cancel_num (mode : Int) : nanB (cancel mode) = false ∧ cancel mode < 18446744073709551616 ∧ fmag (cancel mode) = 0 := by
  unfold cancel
  split <;> decide
theorem rsum_num (S m mode : Int) : nanB (rsum S m mode) = false ∧ rsum S m mode < 18446744073709551616 := by
  unfold rsum
  split
  · exact ⟨(cancel_num mode).1, (cancel_num mode).2.1⟩
  · unfold rnd flr
    have h := fla_le (decide (S < 0)) S.natAbs m false mode
    exact nan_mag (decide (S < 0)) h
theorem fin_not {a : Nat} (h : finB a = true) : nanB a = false ∧ infB a = false := by
  have h1 : fmag a < 9218868437227405312 := of_decide_eq_true h
  exact ⟨decide_eq_false (by omega), decide_eq_false (by omega)⟩
theorem fin_one : finB 4607182418800017408 = true := by decide
theorem frank_zero {f : Nat} (h : fmag f = 0) : frank f = 0 := by unfold frank; rw [h]; split <;> rfl
end Go.Proofs.YtekocoklfnojmaaGreatDoor

namespace Go.Proofs
open Go.Shelf
def Tryz.lays134_ren : Go.Shelf.Ren := ⟨fun | 129 => 223 | 134 => 182 | n => n, fun | 3 => 3 | 4 => 4 | 5 => 5 | 9 => 9 | 46 => 106 | 53 => 22 | n => n, fun | n => n⟩
theorem Tryz.lays134 : Go.Proofs.Lays.n134 Tryz.prog Tryz.lays134_ren := {
  mixed := by kernel_rfl
  f129 := Tryz.func223.trans (congrArg some (by kernel_rfl))
  f134 := Tryz.func182.trans (congrArg some (by kernel_rfl))
  t3 := Tryz.underlying3
  a3 := Tryz.isAgg3
  z3 := Tryz.sizeOf3
  v3 := Tryz.zeroValue3
  t4 := Tryz.underlying4
  a4 := Tryz.isAgg4
  z4 := Tryz.sizeOf4
  v4 := Tryz.zeroValue4
  t5 := Tryz.underlying5
  a5 := Tryz.isAgg5
  z5 := Tryz.sizeOf5
  v5 := Tryz.zeroValue5
  t9 := Tryz.underlying9
  a9 := Tryz.isAgg9
  z9 := Tryz.sizeOf9
  v9 := Tryz.zeroValue9
  t46 := Tryz.underlying106
  a46 := Tryz.isAgg106
  z46 := Tryz.sizeOf106
  v46 := Tryz.zeroValue106
  t53 := Tryz.underlying22
  a53 := Tryz.isAgg22
  z53 := Tryz.sizeOf22
  v53 := Tryz.zeroValue22 }
theorem Tryz.bits_LeadingZeros64 (x : Int) (w : World) (h0 : 0 ≤ x) (h1 : x ≤ 18446744073709551615) :
    Calls Tryz.prog 182 #[.int .u64 x] w fun e w' => e = .returned (.int .i64 (64 - (Lib.bitLen x.toNat : Int))) ∧ w' = w := Any.bits_LeadingZeros64 Tryz.lays134 x w h0 h1
def Tryz.lays264_ren : Go.Shelf.Ren := ⟨fun | 264 => 216 | n => n, fun | 46 => 106 | 53 => 22 | n => n, fun | n => n⟩
theorem Tryz.lays264 : Go.Proofs.Lays.n264 Tryz.prog Tryz.lays264_ren := {
  mixed := by kernel_rfl
  f264 := Tryz.func216.trans (congrArg some (by kernel_rfl))
  t46 := Tryz.underlying106
  a46 := Tryz.isAgg106
  z46 := Tryz.sizeOf106
  v46 := Tryz.zeroValue106
  t53 := Tryz.underlying22
  a53 := Tryz.isAgg22
  z53 := Tryz.sizeOf22
  v53 := Tryz.zeroValue22 }
theorem Tryz.bits_Mul64 (x y : Nat) (hx : x < 18446744073709551616) (hy : y < 18446744073709551616) (w : World) :
    Calls Tryz.prog 216 #[.int .u64 x, .int .u64 y] w fun e w' => e = .returned (.tuple #[.int .u64 ((x * y / 18446744073709551616 : Nat) : Int), .int .u64 ((x * y % 18446744073709551616 : Nat) : Int)]) ∧ w' = w := Any.bits_Mul64 Tryz.lays264 x y hx hy w
def Tryz.lays7_25_ren : Go.Shelf.Ren := ⟨fun | 25 => 231 | n => n, fun | 22 => 22 | n => n, fun | n => n⟩
theorem Tryz.lays7_25 : Go.Proofs.Lays7.n25 Tryz.prog Tryz.lays7_25_ren := {
  mixed := by kernel_rfl
  f25 := Tryz.func231.trans (congrArg some (by kernel_rfl))
  t22 := Tryz.underlying22
  a22 := Tryz.isAgg22
  z22 := Tryz.sizeOf22
  v22 := Tryz.zeroValue22
  i22 := by kernel_rfl }
def Tryz.lays7_26_ren : Go.Shelf.Ren := ⟨fun | 26 => 232 | n => n, fun | 22 => 22 | n => n, fun | n => n⟩
theorem Tryz.lays7_26 : Go.Proofs.Lays7.n26 Tryz.prog Tryz.lays7_26_ren := {
  mixed := by kernel_rfl
  f26 := Tryz.func232.trans (congrArg some (by kernel_rfl))
  t22 := Tryz.underlying22
  a22 := Tryz.isAgg22
  z22 := Tryz.sizeOf22
  v22 := Tryz.zeroValue22
  i22 := by kernel_rfl }
theorem Tryz.bits_Add64 (x y c : Nat) (hc : c ≤ 1) (w : World) :
    (callFunc 231 #[.int .u64 x, .int .u64 y, .int .u64 c]).run Tryz.prog w =
      .ok (.value (.tuple #[.int .u64 (((x + y + c) % 18446744073709551616 : Nat) : Int), .int .u64 (((x + y + c) / 18446744073709551616 : Nat) : Int)])) w := Any7.bits_Add64 Tryz.lays7_25 x y c hc w
theorem Tryz.bits_Sub64 (x y b : Nat) (hb : b ≤ 1) (w : World) :
    (callFunc 232 #[.int .u64 x, .int .u64 y, .int .u64 b]).run Tryz.prog w =
      .ok (.value (.tuple #[.int .u64 (((x + 18446744073709551616 - y - b) % 18446744073709551616 : Nat) : Int), .int .u64 ((if x < y + b then 1 else 0 : Nat) : Int)])) w := Any7.bits_Sub64 Tryz.lays7_26 x y b hb w
end Go.Proofs

namespace Go.Proofs.YtekocoklfnojmaaGreatDoor
open Go.RowKit

theorem Tryz.infoU32 : (Tryz.prog.info? 101).map (fun i => (i.zero, i.size, i.bytes)) = some (some (.int .u32 0), 1, 4) := by kernel_rfl

theorem Tryz.sizeU32 : (Tryz.prog.info? 101).map (·.size) = some 1 := by kernel_rfl

/-- 'make([]uint32, n)': a new block of zeros -/
theorem wpList_make_u32 (w : World) {ops : Array Oper} {rest : List Oper} {o : Oper} {a : Act} {Q : Exit → Act → World → Prop}
    (hg : o.guard = none) (l c : Operand) (hop : o.op = Op.makeSlice 32 l c) (L : Int) (n : Nat)
    (hl : a.eval l = .int .i64 L) (hc : a.eval c = .int .i64 L) (hL : L = (n : Int)) (hn : n ≤ 1099511627776)
    (hK : ∀ w', Blk w' w.heap.size (List.replicate n 0) → Below w.heap.size w w' → wpList Tryz.prog ops Q rest (a.put o.dst (.slice (some ⟨w.heap.size, 0, none⟩) n n)) w') :
    wpList Tryz.prog ops Q (o :: rest) a w := by
  obtain ⟨i0, hi, hz0, hz1, hz2⟩ := info_parts Tryz.infoU32
  refine wpList_make_full w hg l c 32 hop w.heap.size 101 i0 (.int .u32 0) 1 Tryz.underlying32 hi hz0 hz1 _ _ _ _ n hl hc hL hL (by rw [hz2]; omega) (by unfold maxLen; omega) (Nat.le_refl _) ?_
  intro w' ho hgr
  exact hK w' (blk_made ho rfl) ((Below.refl _ w).grown hgr (Nat.le_refl _) (fun k hk => by cases hk))

set_option maxRecDepth 100000 in
set_option maxHeartbeats 400000 in
theorem clone_any (ao : Option Addr) (n cap : Nat) (zs : List Int) (w : World) (h : Sl w ao n cap zs) :
    Calls Tryz.prog 206 #[.slice ao n cap] w fun e w' => e = .returned (.slice (some ⟨w.heap.size, 0, none⟩) n n) ∧ Blk w' w.heap.size zs ∧ Below w.heap.size w w' := by
  have hn := h.big
  go_enter Tryz.func206, Tryz.ntmps206
  go_wp2_with (refine wpList_make_u32 _ rfl _ _ rfl _ n rfl rfl rfl hn ?_)
  intro w1 hb1 hw1
  go_wp2_with (with_reducible refine wpList_copy_u32 rfl (.tmp 7) (.tmp 8) rfl Tryz.underlying32 Tryz.sizeU32 _ 0 n n ao n cap rfl rfl _ hb1 zs (h.below hw1) (Nat.le_refl _) (by simp) ?_)
  intro w2 hb2 hw2
  go_wp2
  go_ret
  refine ⟨rfl, ?_, hw1.trans (hw2.below (Nat.le_refl _))⟩
  have := h.len
  simpa [splice, this] using hb2
end Go.Proofs.YtekocoklfnojmaaGreatDoor

namespace Go.Proofs.YtekocoklfnojmaaGreatDoor
open Go.RowKit

set_option maxRecDepth 100000 in
set_option maxHeartbeats 400000 in
theorem signed_zero (nb : Bool) (ao : Option Addr) (cap : Nat) (w : World) :
    Calls Tryz.prog 152 #[.bool nb, .slice ao 0 cap] w fun e w' => e = .returned (.agg #[.bool false, .slice none 0 0]) ∧ Below w.heap.size w w' := by
  go_enter Tryz.func152, Tryz.ntmps152
  go_wp2
  exact bodyPost_ret (v := .agg #[.bool false, .slice none 0 0]) (by simp [results, Tryz.results152, go_sem]) rfl ⟨rfl, ((Below.refl _ _).alloc (Nat.le_refl _) _)⟩
set_option maxRecDepth 100000 in
set_option maxHeartbeats 400000 in
theorem signed_pos (nb : Bool) (ao : Option Addr) (n cap : Nat) (w : World) (h : 0 < n) :
    Calls Tryz.prog 152 #[.bool nb, .slice ao n cap] w fun e w' => e = .returned (.agg #[.bool nb, .slice ao n cap]) ∧ Below w.heap.size w w' := by
  have hn : ((n : Int) == 0) = false := beq_eq_false_iff_ne.2 (by omega)
  go_enter Tryz.func152, Tryz.ntmps152
  go_wp2
  exact bodyPost_ret (v := .agg #[.bool nb, .slice ao n cap]) (by simp [results, Tryz.results152, go_sem]) rfl ⟨rfl, ((Below.refl _ _).alloc (Nat.le_refl _) _)⟩

/-- whatever the limbs: they stay, and zero is not negative -/
theorem signed_any (nb : Bool) (ao : Option Addr) (n cap : Nat) (zs : List Int) (w : World) (h : Sl w ao n cap zs) :
    Calls Tryz.prog 152 #[.bool nb, .slice ao n cap] w fun e w' => ∃ ao' cap', e = .returned (.agg #[.bool (nb && decide (0 < n)), .slice ao' n cap']) ∧ Sl w' ao' n cap' zs ∧ Below w.heap.size w w' := by
  by_cases h0 : 0 < n
  · refine (signed_pos nb ao n cap w h0).mono fun e w' ⟨he, hw⟩ => ⟨ao, cap, ?_, h.below hw, hw⟩
    rw [he]; simp [h0]
  · obtain rfl : n = 0 := by omega
    have hz : zs = [] := List.eq_nil_of_length_eq_zero h.len
    subst hz
    exact (signed_zero nb ao cap w).mono fun e w' ⟨he, hw⟩ => ⟨none, 0, by rw [he]; simp, Sl.nil w', hw⟩
end Go.Proofs.YtekocoklfnojmaaGreatDoor

namespace Go.Proofs.YtekocoklfnojmaaGreatDoor
open Go.RowKit

set_option maxRecDepth 100000 in
set_option maxHeartbeats 400000 in
theorem cmpInt_any (x y : Int) (w : World) : Calls Tryz.prog 117 #[.int .i64 x, .int .i64 y] w fun e w' => e = .returned (.int .i64 (sgn3 x y)) ∧ w = w' := by
  have hx : (x != x) = false := by simp
  have hy : (y != y) = false := by simp
  by_cases h1 : x < y
  · have e : sgn3 x y = -1 := by simp [sgn3, h1]
    have E := Lib.hid e; clear e
    go_enter Tryz.func117, Tryz.ntmps117
    go_wp2_with go_in
    go_ret
    exact ⟨by rw [E.out]; rfl, rfl⟩
  · by_cases h2 : y < x
    · have e : sgn3 x y = 1 := by simp [sgn3, h1, h2]
      have E := Lib.hid e; clear e
      go_enter Tryz.func117, Tryz.ntmps117
      go_wp2_with go_in
      go_ret
      exact ⟨by rw [E.out]; rfl, rfl⟩
    · have e : sgn3 x y = 0 := by simp [sgn3, h1, h2]
      have E := Lib.hid e; clear e
      go_enter Tryz.func117, Tryz.ntmps117
      go_wp2_with go_in
      go_ret
      exact ⟨by rw [E.out]; rfl, rfl⟩

set_option maxRecDepth 100000 in
set_option maxHeartbeats 400000 in
theorem cmpU32_any (x y : Int) (w : World) : Calls Tryz.prog 205 #[.int .u32 x, .int .u32 y] w fun e w' => e = .returned (.int .i64 (sgn3 x y)) ∧ w = w' := by
  have hx : (x != x) = false := by simp
  have hy : (y != y) = false := by simp
  by_cases h1 : x < y
  · have e : sgn3 x y = -1 := by simp [sgn3, h1]
    have E := Lib.hid e; clear e
    go_enter Tryz.func205, Tryz.ntmps205
    go_wp2_with go_in
    go_ret
    exact ⟨by rw [E.out]; rfl, rfl⟩
  · by_cases h2 : y < x
    · have e : sgn3 x y = 1 := by simp [sgn3, h1, h2]
      have E := Lib.hid e; clear e
      go_enter Tryz.func205, Tryz.ntmps205
      go_wp2_with go_in
      go_ret
      exact ⟨by rw [E.out]; rfl, rfl⟩
    · have e : sgn3 x y = 0 := by simp [sgn3, h1, h2]
      have E := Lib.hid e; clear e
      go_enter Tryz.func205, Tryz.ntmps205
      go_wp2_with go_in
      go_ret
      exact ⟨by rw [E.out]; rfl, rfl⟩

set_option maxRecDepth 100000 in
set_option maxHeartbeats 1000000 in
theorem compare_any (a b : Nat) (ao bo : Option Addr) (n m ca cb : Nat) (w : World) (ha : Sl w ao n ca (limbs a)) (hb : Sl w bo m cb (limbs b)) :
    Calls Tryz.prog 160 #[.slice ao n ca, .slice bo m cb] w fun e w' => e = .returned (.int .i64 (sgn3 a b)) ∧ ∃ q, w' = w.drewN q := by
  have hna := ha.big
  have hnb := hb.big
  by_cases hnm : n = m
  · subst hnm
    have h0 : ((n : Int) != n) = false := by simp
    go_enter Tryz.func160, Tryz.ntmps160
    go_wp2
    go_loopw [5] (fun i wr => ∃ k q : Nat, k ≤ n ∧ i = .int .i64 ((k : Int) - 1) ∧ (limbs a).drop k = (limbs b).drop k ∧ wr = w.drewN q) (fun i _ => (intOf i + 1).toNat)
    case atStart => exact ⟨n, 0, Nat.le_refl _, rfl, by rw [List.drop_eq_nil_of_le (by rw [ha.len]; exact Nat.le_refl _), List.drop_eq_nil_of_le (by rw [hb.len]; exact Nat.le_refl _)], rfl⟩
    case round =>
      obtain ⟨k, q, hk, rfl, hd, hw⟩ := hrel
      have HD := Lib.hid hd; clear hd
      subst hw
      by_cases hlt : 0 < k
      · obtain ⟨j, rfl⟩ : ∃ j, k = j + 1 := ⟨k - 1, by omega⟩
        obtain ⟨ba, oa, rfl, hca⟩ := ha.cells (by rw [ha.len]; omega)
        obtain ⟨bb, ob, rfl, hcb⟩ := hb.cells (by rw [hb.len]; omega)
        have c1 := hca j (by rw [ha.len]; omega)
        have c2 := hcb j (by rw [hb.len]; omega)
        clear hca hcb
        obtain ⟨x, hx⟩ : ∃ x, (limbs a).getD j 0 = x := ⟨_, rfl⟩
        obtain ⟨y, hy⟩ : ∃ y, (limbs b).getD j 0 = y := ⟨_, rfl⟩
        rw [hx] at c1
        rw [hy] at c2
        have HX := Lib.hid hx; clear hx
        have HY := Lib.hid hy; clear hy
        have ej : ((j + 1 : Nat) : Int) - 1 = (j : Int) := by omega
        rw [ej]
        clear ej
        by_cases hxy : x = y
        · subst hxy
          have hxx : (x != x) = false := by simp
          go_wp2
          go_quiet (fail)
          go_wp2
          go_roundw
          case rel => exact ⟨j, q + nq, by omega, by go_num, drop_eq_cons (by rw [ha.len]; omega) (by rw [hb.len]; omega) HD.out (by rw [HX.out, HY.out]), by simp [World.drewN]⟩
          case measure => simp [intOf] <;> omega
        · have hxx : (x != y) = true := by simp [hxy]
          have HN := Lib.hid hxy; clear hxy
          go_wp2
          go_quiet (fail)
          go_wp2
          go_quiet ((go_at_call 205; exact quiet_add_left (cmpU32_any _ _ _)))
          go_wp2
          go_ret
          refine ⟨?_, _, by rw [World.drewN_drewN, World.drewN_drewN]⟩
          have := sgn3_limb (a := a) (b := b) (by rw [ha.len, hb.len]) j (by rw [ha.len]; omega) HD.out (by rw [HX.out, HY.out]; exact HN.out)
          rw [HX.out, HY.out] at this
          rw [← this]; rfl
      · obtain rfl : k = 0 := by omega
        clear ha hb
        go_wp2
        go_ret
        refine ⟨?_, q, rfl⟩
        have hd := HD.out
        rw [List.drop_zero, List.drop_zero] at hd
        obtain rfl := limbs_inj hd
        simp [sgn3]
  · have h0 : ((n : Int) != m) = true := by simp; omega
    go_enter Tryz.func160, Tryz.ntmps160
    go_wp2_with (go_at_call 117; refine (cmpInt_any _ _ _).mono ?_; rintro e w' ⟨rfl, rfl⟩)
    go_ret
    refine ⟨?_, 0, rfl⟩
    have := sgn3_lens (a := a) (b := b) (by rw [ha.len, hb.len]; exact hnm)
    rw [ha.len, hb.len] at this
    rw [← this]; rfl
end Go.Proofs.YtekocoklfnojmaaGreatDoor
