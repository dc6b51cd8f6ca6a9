import Derived.Test.YtlpclahlolhjfaaGreatDoorMoRlU19
import Derived.Test.YtlpclahlolhjfaaGreatDoorMoRlU13
import Derived.Test.YtlpclahlolhjfaaGreatDoorMoRlU16
import Derived.Test.YtlpclahlolhjfaaGreatDoorMoRlU8
namespace Go.Proofs.YtlpclahlolhjfaaGreatDoor
open Go.RowKit

theorem Own.of_blk {w : World} {B g : Nat} {L : List Int} (h : Blk w g L) (hB : B ≤ g) (hn : L.length ≤ 1099511627776) : Own w B (.slice (some ⟨g, 0, none⟩) L.length L.length) L := by
  refine ⟨by simp, Or.inr ⟨g, L.length, _, rfl, hB, h, Nat.le_refl _, by unfold maxLen; omega, by simp, ?_⟩⟩
  simp only [Nat.mul_one]
  exact List.take_of_length_le (by simp)

theorem or_low64 {z q : Int} {k : Nat} (hk : k < 32) (z0 : 0 ≤ z) (z1 : z < 2 ^ k) (q0 : 0 ≤ q) (q1 : q < 4294967296) : bits BinOp.or IntKind.u64 z (q * 2 ^ k) = z + q * 2 ^ k ∧ 0 ≤ z + q * 2 ^ k ∧ z + q * 2 ^ k < 4294967296 * 2 ^ k := by
  obtain ⟨a, rfl⟩ := Int.eq_ofNat_of_zero_le z0
  obtain ⟨b, rfl⟩ := Int.eq_ofNat_of_zero_le q0
  have hp := two_pos k
  have h1 : a < 2 ^ k := by
    have : ((a : Nat) : Int) < ((2 ^ k : Nat) : Int) := by rw [Int.natCast_pow]; exact z1
    exact Int.ofNat_lt.1 this
  have h3 : 2 ^ k < 2 ^ 32 := Nat.pow_lt_pow_right (by omega) hk
  have h2 : b * 2 ^ k < 18446744073709551616 := by
    have : b * 2 ^ k < 4294967296 * 2 ^ 32 := Nat.mul_lt_mul'' (by omega) h3
    exact this
  have e := bits_or_u64_nat a (b * 2 ^ k) (by omega) h2
  have e2 : a ||| b * 2 ^ k = a + b * 2 ^ k := by
    have := Nat.two_pow_add_eq_or_of_lt h1 b
    rw [Nat.or_comm, Nat.mul_comm b, ← this]; omega
  rw [e2, Int.natCast_add, Int.natCast_mul, Int.natCast_pow] at e
  refine ⟨e, ?_, ?_⟩
  · have := Int.mul_nonneg q0 (Int.le_of_lt hp); omega
  · have := Int.mul_le_mul_of_nonneg_right (show (b : Int) + 1 ≤ 4294967296 by omega) (Int.le_of_lt hp)
    rw [Int.add_mul, Int.one_mul] at this
    omega

theorem wrap_shl64 {q : Int} {k : Nat} (hk : k < 32) (q0 : 0 ≤ q) (q1 : q < 4294967296) : IntKind.u64.wrap (q * 2 ^ k) = q * 2 ^ k := by
  have hp := two_pos k
  have h0 := Int.mul_nonneg q0 (Int.le_of_lt hp)
  have h1 := Int.mul_lt_mul_of_pos_right q1 hp
  have h2 : (4294967296 : Int) * 2 ^ k ≤ 18446744073709551616 := by
    have h3 := Int.pow_lt_pow_of_lt (show (1 : Int) < 2 by omega) hk
    have h4 : (2 : Int) ^ 32 = 4294967296 := rfl
    omega
  rw [IntKind.wrap_u64]
  exact Int.emod_eq_of_lt h0 (by omega)

/-- q limbs are shifted, c goes over -/
def ShlAt (zs : List Int) (k q : Nat) (L : List Int) (c : Int) : Prop := L.length = q ∧ Wf L ∧ 0 ≤ c ∧ c < 2 ^ k ∧ num L + 4294967296 ^ q * c = num (zs.take q) * 2 ^ k

theorem ShlAt.step {zs L : List Int} {k q : Nat} {c t : Int} (h : ShlAt zs k q L c) (hq : q < zs.length) (ht : t = c + zs.getD q 0 * 2 ^ k) (t0 : 0 ≤ t) (t1 : t < 4294967296 * 2 ^ k) : ShlAt zs k (q + 1) (L ++ [t % 4294967296]) (t / 4294967296) := by
  obtain ⟨h1, h2, h3, h4, h5⟩ := h
  refine ⟨by simp [h1], h2.append (Wf.cons ⟨by omega, by omega⟩ Wf.nil), by omega, by omega, ?_⟩
  rw [num_append, h1, num_take_succ zs q hq, Int.pow_succ]
  simp only [num]
  have e : t % 4294967296 + 4294967296 * (t / 4294967296) = t := by omega
  have e2 : (4294967296 : Int) ^ q * (t % 4294967296) + 4294967296 ^ q * 4294967296 * (t / 4294967296) = 4294967296 ^ q * t := by
    rw [Int.mul_assoc, ← Int.mul_add, e]
  have e3 : (4294967296 : Int) ^ q * t = 4294967296 ^ q * c + 4294967296 ^ q * zs.getD q 0 * 2 ^ k := by rw [ht, Int.mul_add, ← Int.mul_assoc]
  rw [Int.add_mul]
  simp only [Int.mul_zero, Int.add_zero]
  omega

set_option maxRecDepth 100000 in
set_option maxHeartbeats 2000000 in
theorem refShl_any (zs : List Int) (s k : Nat) (ao : Option Addr) (n ca : Nat) (w : World) (ha : Sl w ao n ca zs) (hk : k < 32) (hn : n ≤ 1000000000) (hs : s ≤ 1000000000) :
    Calls Tryz.prog 82 #[.slice ao n ca, .int .i64 ((s * 32 + k : Nat) : Int)] w fun e w' => ∃ ro l cr L, e = .returned (.slice ro l cr) ∧ Sl w' ro l cr L ∧ num L = num zs * 4294967296 ^ s * 2 ^ k ∧ l = s + n + 1 ∧ Ext w w' := by
  have hd : ((s * 32 + k : Nat) : Int) / 32 = (s : Int) := by omega
  have hr : ((s * 32 + k : Nat) : Int) % 32 = (k : Int) := by omega
  obtain ⟨x, hx⟩ : ∃ x : Int, ((s * 32 + k : Nat) : Int) = x := ⟨_, rfl⟩
  rw [hx] at hd hr ⊢
  have hx0 : 0 ≤ x := by omega
  have hx1 : x ≤ 100000000000 := by omega
  have HX := Lib.hid hx; clear hx
  have hal := ha.len
  have HAL := Lib.hid hal; clear hal
  have hwz := ha.wf
  go_enter Tryz.func82, Tryz.ntmps82
  go_wp2_with (refine wpList_make_u32 _ rfl _ _ rfl _ s rfl rfl (by omega) (by omega) ?_)
  intro w1 hb1 hw1
  have hown0 := Own.of_blk hb1 (Nat.le_refl _) (by simp; omega)
  simp only [List.length_replicate] at hown0
  generalize hBe : w.heap.size = B at *
  have HBe := Lib.hid hBe; clear hBe hb1
  go_wp2
  go_loopw [5, 6, 7] (fun v c i wr => ∃ (q : Nat) (L : List Int) (cc : Int), q ≤ n ∧ i = .int .i64 q ∧ c = .int .u64 cc ∧ ShlAt zs k q L cc ∧ Own wr B v (List.replicate s 0 ++ L) ∧ Below B w wr) (fun _ _ i _ => n - (intOf i).toNat)
  case atStart => exact ⟨0, [], 0, Nat.zero_le _, rfl, rfl, ⟨rfl, Wf.nil, Int.le_refl _, two_pos k, by simp [num]⟩, by simpa using hown0, hw1⟩
  case round =>
    obtain ⟨q, L, cc, hq, rfl, rfl, hsh, hown, hB⟩ := hrel
    have hlen : (List.replicate s (0 : Int) ++ L).length = s + q := by rw [List.length_append, List.length_replicate, hsh.1]
    have hc0 := hsh.2.2.1
    have hc1 := hsh.2.2.2.1
    have HSH := Lib.hid hsh; clear hsh
    have hszq : B ≤ wr.heap.size := by have := hB.size; have := HBe.out; omega
    have HSZ := Lib.hid hszq; clear hszq
    have hlq : (List.replicate s (0 : Int) ++ L).length ≤ 1099511627776 := by omega
    have HLQ := Lib.hid hlq; clear hlq
    have HLEN := Lib.hid hlen; clear hlen
    by_cases hlt : q < n
    · obtain ⟨b, off, e0, hc⟩ := (ha.below (by rw [HBe.out]; exact hB)).cells (by rw [HAL.out]; omega)
      subst e0
      have c1 := hc q (by rw [HAL.out]; omega)
      clear hc
      obtain ⟨y, hy⟩ : ∃ y, zs.getD q 0 = y := ⟨_, rfl⟩
      have hyr := hwz.getD q
      rw [hy] at c1 hyr
      obtain ⟨y0, y1⟩ := hyr
      have HY := Lib.hid hy; clear hy
      have hor := or_low64 hk hc0 hc1 y0 y1
      have HOR := Lib.hid hor
      have HWR := Lib.hid (wrap_shl64 hk y0 y1)
      clear hor
      go_wp2_with (at_builtin; refine wpList_append_u32 _ rfl (.tmp 27) (.tmp 30) rfl B _ (List.replicate s 0 ++ L) _ rfl rfl hown HSZ.out HLQ.out ?_)
      intro v' w2 hown' hB1
      go_wp2
      go_roundw
      case rel =>
        rw [HWR.out, HOR.out.1] at hown' ⊢
        have h1 := HSH.out.step (by rw [HAL.out]; exact hlt) (t := cc + y * 2 ^ k) (by rw [HY.out]) HOR.out.2.1 HOR.out.2.2
        exact ⟨q + 1, _, _, by omega, by go_num, rfl, h1, hown', hB.trans hB1⟩
      case measure => simp [intOf] <;> omega
    · obtain rfl : q = n := by omega
      go_wp2_with (at_builtin; refine wpList_append_u32 _ rfl (.tmp 34) (.tmp 37) rfl B _ (List.replicate s 0 ++ L) _ rfl rfl hown HSZ.out HLQ.out ?_)
      intro v' w2 hown' hB1
      have hcc : cc % 4294967296 = cc := by
        have h3 := Int.pow_lt_pow_of_lt (show (1 : Int) < 2 by omega) hk
        have h4 : (2 : Int) ^ 32 = 4294967296 := rfl
        exact Int.emod_eq_of_lt hc0 (by omega)
      rw [hcc] at hown'
      have hwf : Wf (List.replicate s 0 ++ (L ++ [cc])) := (Wf.replicate s).append (HSH.out.2.1.append (Wf.cons ⟨hc0, by omega⟩ Wf.nil))
      have hll : (List.replicate s (0 : Int) ++ (L ++ [cc])).length = s + q + 1 := by
        rw [List.length_append, List.length_append, List.length_replicate, HSH.out.1]; rfl
      have hnum : num (List.replicate s 0 ++ (L ++ [cc])) = num zs * 4294967296 ^ s * 2 ^ k := by
        have h5 := HSH.out.2.2.2.2
        rw [List.take_of_length_le (by rw [HAL.out]; exact Nat.le_refl _)] at h5
        rw [num_append, num_append, num_replicate, List.length_replicate, HSH.out.1]
        simp only [num]
        rw [Int.mul_zero, Int.add_zero, h5, Int.zero_add, Int.mul_comm (num zs), ← Int.mul_assoc, Int.mul_comm (num zs), Int.mul_right_comm, Int.mul_assoc]
      obtain ⟨ro, rc, rfl, hsl⟩ := hown'.sl hwf (by rw [hll]; omega)
      have HSL := Lib.hid hsl
      have HNUM := Lib.hid hnum
      have HLL := Lib.hid hll
      clear hsl hnum hown' hwf hll
      go_wp2
      go_ret
      exact ⟨ro, _, rc, _, rfl, HSL.out, HNUM.out, HLL.out, by rw [Ext, HBe.out]; exact hB.trans hB1⟩
end Go.Proofs.YtlpclahlolhjfaaGreatDoor

namespace Go.Proofs.YtlpclahlolhjfaaGreatDoor
open Go.RowKit

/-- the first j limbs of a number as a word -/
def lowW (a j : Nat) : Int := ((a % 4294967296 ^ j : Nat) : Int)

theorem lowW_zero (a : Nat) : lowW a 0 = 0 := by unfold lowW; rw [Nat.pow_zero, Nat.mod_one]; rfl
theorem lowW_one {a : Nat} : lowW a 1 = (limbs a).getD 0 0 := by
  rw [limbs_at, Nat.pow_zero, Nat.div_one, lowW, Nat.pow_one]
theorem lowW_two {a : Nat} : lowW a 2 = (limbs a).getD 0 0 + (limbs a).getD 1 0 * 4294967296 := by
  rw [limbs_at, limbs_at, Nat.pow_zero, Nat.div_one, Nat.pow_one]
  unfold lowW
  rw [show (4294967296 : Nat) ^ 2 = 4294967296 * 4294967296 from rfl]
  omega
theorem lowW_all {a k : Nat} (h : (limbs a).length = k) : lowW a k = (a : Int) := by
  have h1 := (limbs_len_le a k).1 (by omega)
  unfold lowW
  rw [Nat.mod_eq_of_lt h1]
theorem or_none64 {y : Int} (y0 : 0 ≤ y) (y1 : y < 4294967296) : bits BinOp.or IntKind.u64 0 y = y := by
  obtain ⟨a, rfl⟩ := Int.eq_ofNat_of_zero_le y0
  have e := bits_or_u64_nat 0 a (by omega) (by omega)
  rw [Nat.zero_or] at e
  exact e

set_option maxRecDepth 100000 in
set_option maxHeartbeats 2000000 in
theorem refInt_any (nb : Bool) (ao : Option Addr) (n ca : Nat) (x : Int) (w : World) (h : Bg w nb ao n ca x) :
    Calls Tryz.prog 16 #[.agg #[.bool nb, .slice ao n ca]] w fun e w' => e = .returned (.tuple #[.int .i64 (intOut x), .bool (fitsI x)]) ∧ Ext w w' := by
  obtain ⟨ro, hro⟩ : ∃ v : Value, v = .int .i64 (intOut x) := ⟨_, rfl⟩
  obtain ⟨rb, hrb⟩ : ∃ v : Value, v = .bool (fitsI x) := ⟨_, rfl⟩
  rw [← hro, ← hrb]
  have HRO := Lib.hid hro; clear hro
  have HRB := Lib.hid hrb; clear hrb
  go_enter Tryz.func16, Tryz.ntmps16
  go_wp2_with fail
  obtain ⟨W, hW, hB, hbx, hsz⟩ := box_new w nb ao n ca
  rw [← hW]
  clear hW
  have h0 := h.below hB
  generalize hBe : w.heap.size = B at *
  have HBe := Lib.hid hBe; clear hBe h
  have k0 := hbx.c0
  have k1 := hbx.c1
  go_wp2_with fail
  refine (refNorm_any nb ao n ca x W h0).mono ?_
  rintro e w1 ⟨nr, xo, k, rc, rfl, hs1, hk, hw1⟩
  have b1 := hbx.below hw1
  obtain ⟨h1, z1⟩ := bnext hB (by omega) hw1
  have q0 := b1.c0
  have q1 := b1.c1
  have q2 := b1.f 0
  have q3 := b1.f 1
  have bst := b1.stored nr xo k rc
  have u0 := bst.c0
  have u1 := bst.c1
  have hsl := hs1.sl.only_box b1 (only_set2 w1 B (.bool nr) (.slice xo k rc))
  have HBL := Lib.hid (h1.trans ((only_set2 w1 B (.bool nr) (.slice xo k rc)).below (Nat.le_refl B)))
  have HN := Lib.hid hs1.neg
  generalize hW2 : (w1.setCell ⟨B, 0, none⟩ (.bool nr)).setCell ⟨B, 1, none⟩ (.slice xo k rc) = W2 at *
  have HW2 := Lib.hid hW2
  clear h0 hB hbx k0 k1 h1 hw1 b1 bst hs1
  have hkb := hsl.big
  have hxl := hsl.len
  go_upto_region 2 with fail
  clear hW2 q0 q1 q2 q3
  obtain ⟨a, ha⟩ : ∃ a, x.natAbs = a := ⟨_, rfl⟩
  rw [ha] at hsl hxl
  have HXL := Lib.hid hxl; clear hxl
  have hxa : x = if nr then -(a : Int) else (a : Int) := by
    rw [HN.out]
    by_cases hx : x < 0
    · simp only [hx, decide_true, if_true]; omega
    · simp only [hx, decide_false, Bool.false_eq_true, if_false]; omega
  have hxn : nr = true → a ≠ 0 := by
    intro e; rw [HN.out] at e; simp at e; omega
  have HXA := Lib.hid hxa; clear hxa
  have HXN := Lib.hid hxn; clear hxn ha
  by_cases hk2 : k ≤ 2
  · have hlt := (limbs_len_le a 2).1 (by rw [HXL.out]; exact hk2)
    have hal : a < 18446744073709551616 := hlt
    clear hlt
    go_wp2
    go_loopw [4, 5] (fun u i wr => ∃ j : Nat, j ≤ k ∧ i = .int .i64 j ∧ u = .int .u64 (lowW a j) ∧ wr = W2) (fun _ i _ => k - (intOf i).toNat)
    case atStart => exact ⟨0, Nat.zero_le _, rfl, by rw [lowW_zero], rfl⟩
    case round =>
      obtain ⟨j, hj, rfl, rfl, rfl⟩ := hrel
      by_cases hlt : j < k
      · obtain ⟨b, off, e0, hc⟩ := hsl.cells (by rw [HXL.out]; omega)
        subst e0
        have c1 := hc j (by rw [HXL.out]; omega)
        have hyr := (Wf.limbs a).getD j
        clear hc
        obtain ⟨y, hy⟩ : ∃ y, (limbs a).getD j 0 = y := ⟨_, rfl⟩
        rw [hy] at c1 hyr
        obtain ⟨y0, y1⟩ := hyr
        have HY := Lib.hid hy; clear hy
        rcases (show j = 0 ∨ j = 1 by omega) with h | h
        · subst h
          have hor := or_none64 y0 y1
          rw [lowW_zero]
          rw [Nat.add_zero] at c1
          go_wp2
          go_roundw
          case rel => exact ⟨1, by omega, by go_num, by rw [lowW_one, HY.out], by first | rfl | trivial⟩
          case measure => simp [intOf] <;> omega
        · subst h
          obtain ⟨z, hz⟩ : ∃ z, lowW a 1 = z := ⟨_, rfl⟩
          have hzr := (Wf.limbs a).getD 0
          rw [← lowW_one, hz] at hzr
          have hor := or64 hzr.1 hzr.2 y0 y1
          rw [hz]
          have HZ := Lib.hid hz; clear hz
          go_wp2
          go_roundw
          case rel => exact ⟨2, by omega, by go_num, by rw [lowW_two, HY.out, ← lowW_one, HZ.out], by first | rfl | trivial⟩
          case measure => simp [intOf] <;> omega
      · obtain rfl : j = k := by omega
        rw [lowW_all HXL.out]
        clear hsl
        by_cases h63 : a ≤ 9223372036854775807
        · cases nr with
          | true =>
            have hy := fits_yes (x := x) (by have := HXA.out; simp only [if_true] at this; omega)
            have hx2 : x = -(a : Int) := HXA.out
            have ha0 := HXN.out rfl
            have HY := Lib.hid hy; clear hy
            have HX2 := Lib.hid hx2; clear hx2
            go_wp2
            go_ret2
            refine ⟨?_, by rw [Ext, HBe.out]; exact HBL.out⟩
            rw [HRO.out, HRB.out, HY.out.1, HY.out.2, HX2.out, show -(a : Int) = -((a : Int) - 1) - 1 by omega]; rfl
          | false =>
            have hy := fits_yes (x := x) (by have := HXA.out; simp only [Bool.false_eq_true, if_false] at this; omega)
            have hx2 : x = (a : Int) := HXA.out
            have HY := Lib.hid hy; clear hy
            have HX2 := Lib.hid hx2; clear hx2
            go_wp2
            go_ret2
            refine ⟨?_, by rw [Ext, HBe.out]; exact HBL.out⟩
            rw [HRO.out, HRB.out, HY.out.1, HY.out.2, HX2.out]; rfl
        · cases nr with
          | true =>
            by_cases h64 : a = 9223372036854775808
            · subst h64
              have hx : x = -9223372036854775808 := by have := HXA.out; simp only [if_true] at this; omega
              have HX := Lib.hid hx; clear hx
              go_wp2
              go_ret2
              refine ⟨?_, by rw [Ext, HBe.out]; exact HBL.out⟩
              rw [HRO.out, HRB.out, HX.out]; rfl
            · have hy := fits_no (x := x) (by have := HXA.out; simp only [if_true] at this; omega)
              have HY := Lib.hid hy; clear hy
              go_wp2
              go_ret2
              refine ⟨?_, by rw [Ext, HBe.out]; exact HBL.out⟩
              rw [HRO.out, HRB.out, HY.out.1, HY.out.2]; rfl
          | false =>
            have hy := fits_no (x := x) (by have := HXA.out; simp only [Bool.false_eq_true, if_false] at this; omega)
            have HY := Lib.hid hy; clear hy
            go_wp2
            go_ret2
            refine ⟨?_, by rw [Ext, HBe.out]; exact HBL.out⟩
            rw [HRO.out, HRB.out, HY.out.1, HY.out.2]; rfl
  · have h9 : ¬ a < 4294967296 ^ 2 := by
      have := limbs_len_le a 2
      rw [HXL.out] at this
      omega
    have h10 : ¬ a < 18446744073709551616 := h9
    have hy := fits_no (x := x) (by have := HXA.out; cases nr <;> simp only [Bool.false_eq_true, if_false, if_true] at this <;> omega)
    have HY := Lib.hid hy; clear hy h9 h10 hsl
    go_wp2
    go_ret2
    refine ⟨?_, by rw [Ext, HBe.out]; exact HBL.out⟩
    rw [HRO.out, HRB.out, HY.out.1, HY.out.2]; rfl
end Go.Proofs.YtlpclahlolhjfaaGreatDoor
