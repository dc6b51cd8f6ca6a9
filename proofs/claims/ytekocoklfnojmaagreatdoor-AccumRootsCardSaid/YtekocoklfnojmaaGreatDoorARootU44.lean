import Derived.Test.YtekocoklfnojmaaGreatDoorARootU21
import Derived.Test.YtekocoklfnojmaaGreatDoorARootU43
import Derived.Test.YtekocoklfnojmaaGreatDoorARootU40
import Derived.Test.YtekocoklfnojmaaGreatDoorARootU6
import Derived.Test.YtekocoklfnojmaaGreatDoorARootU22
import Derived.Test.YtekocoklfnojmaaGreatDoorARootU38
import Derived.Test.YtekocoklfnojmaaGreatDoorARootU37
import Derived.Test.YtekocoklfnojmaaGreatDoorARootU18
import Derived.Test.YtekocoklfnojmaaGreatDoorARootU19
import Derived.Test.YtekocoklfnojmaaGreatDoorARootU42
import Derived.Test.YtekocoklfnojmaaGreatDoorARootU7
import Derived.Test.YtekocoklfnojmaaGreatDoorARootU5
import Derived.Test.YtekocoklfnojmaaGreatDoorARootU3
import Derived.Test.YtekocoklfnojmaaGreatDoorARootU20
import Derived.Test.YtekocoklfnojmaaGreatDoorARootU2
import Derived.Deep.QuietTactic
import Derived.BigQuiet
import Derived.Deep.RegionHeld3
import Derived.Test.YtekocoklfnojmaaGreatDoorARootU41
import Derived.Deep.CutRange
import Derived.Test.YtekocoklfnojmaaGreatDoorARootU8
import Derived.Test.YtekocoklfnojmaaGreatDoorARootU26
import Derived.Test.YtekocoklfnojmaaGreatDoorARootU34
import Derived.Test.YtekocoklfnojmaaGreatDoorARootU25
import Derived.Test.YtekocoklfnojmaaGreatDoorARootU28
import Derived.Test.YtekocoklfnojmaaGreatDoorARootU35
namespace Go.Proofs.YtekocoklfnojmaaGreatDoor
open Go.RowKit

/-- the first j limbs of a number as a word -/
def lowW (a j : Nat) : Int := ((a % 4294967296 ^ j : Nat) : Int)

theorem lowW_zero (a : Nat) : lowW a 0 = 0 := by unfold lowW; rw [Nat.pow_zero, Nat.mod_one]; rfl
theorem lowW_one {a : Nat} : lowW a 1 = (limbs a).getD 0 0 := by
  rw [limbs_at, Nat.pow_zero, Nat.div_one, lowW, Nat.pow_one]
theorem lowW_two {a : Nat} : lowW a 2 = (limbs a).getD 0 0 + (limbs a).getD 1 0 * 4294967296 := by
  rw [limbs_at, limbs_at, Nat.pow_zero, Nat.div_one, Nat.pow_one]
  unfold lowW
  rw [show (4294967296 : Nat) ^ 2 = 4294967296 * 4294967296 from rfl]
  omega
theorem lowW_all {a k : Nat} (h : (limbs a).length = k) : lowW a k = (a : Int) := by
  have h1 := (limbs_len_le a k).1 (by omega)
  unfold lowW
  rw [Nat.mod_eq_of_lt h1]
theorem or_none64 {y : Int} (y0 : 0 ≤ y) (y1 : y < 4294967296) : bits BinOp.or IntKind.u64 0 y = y := by
  obtain ⟨a, rfl⟩ := Int.eq_ofNat_of_zero_le y0
  have e := bits_or_u64_nat 0 a (by omega) (by omega)
  rw [Nat.zero_or] at e
  exact e

set_option maxRecDepth 100000 in
set_option maxHeartbeats 2000000 in
theorem refInt_any (nb : Bool) (ao : Option Addr) (n ca : Nat) (x : Int) (w : World) (h : Bg w nb ao n ca x) :
    Calls Tryz.prog 191 #[.agg #[.bool nb, .slice ao n ca]] w fun e w' => e = .returned (.tuple #[.int .i64 (intOut x), .bool (fitsI x)]) ∧ Ext w w' := by
  obtain ⟨ro, hro⟩ : ∃ v : Value, v = .int .i64 (intOut x) := ⟨_, rfl⟩
  obtain ⟨rb, hrb⟩ : ∃ v : Value, v = .bool (fitsI x) := ⟨_, rfl⟩
  rw [← hro, ← hrb]
  have HRO := Lib.hid hro; clear hro
  have HRB := Lib.hid hrb; clear hrb
  go_enter Tryz.func191, Tryz.ntmps191
  go_wp2_with fail
  obtain ⟨W, hW, hB, hbx, hsz⟩ := box_new w nb ao n ca
  rw [← hW]
  clear hW
  have h0 := h.below hB
  generalize hBe : w.heap.size = B at *
  have HBe := Lib.hid hBe; clear hBe h
  have k0 := hbx.c0
  have k1 := hbx.c1
  go_wp2_with fail
  refine (refNorm_any nb ao n ca x W h0).mono ?_
  rintro e w1 ⟨nr, xo, k, rc, rfl, hs1, hk, hw1⟩
  have b1 := hbx.below hw1
  obtain ⟨h1, z1⟩ := bnext hB (by omega) hw1
  have q0 := b1.c0
  have q1 := b1.c1
  have q2 := b1.f 0
  have q3 := b1.f 1
  have bst := b1.stored nr xo k rc
  have u0 := bst.c0
  have u1 := bst.c1
  have hsl := hs1.sl.only_box b1 (only_set2 w1 B (.bool nr) (.slice xo k rc))
  have HBL := Lib.hid (h1.trans ((only_set2 w1 B (.bool nr) (.slice xo k rc)).below (Nat.le_refl B)))
  have HN := Lib.hid hs1.neg
  generalize hW2 : (w1.setCell ⟨B, 0, none⟩ (.bool nr)).setCell ⟨B, 1, none⟩ (.slice xo k rc) = W2 at *
  have HW2 := Lib.hid hW2
  clear h0 hB hbx k0 k1 h1 hw1 b1 bst hs1
  have hkb := hsl.big
  have hxl := hsl.len
  go_upto_region 2 with fail
  clear hW2 q0 q1 q2 q3
  obtain ⟨a, ha⟩ : ∃ a, x.natAbs = a := ⟨_, rfl⟩
  rw [ha] at hsl hxl
  have HXL := Lib.hid hxl; clear hxl
  have hxa : x = if nr then -(a : Int) else (a : Int) := by
    rw [HN.out]
    by_cases hx : x < 0
    · simp only [hx, decide_true, if_true]; omega
    · simp only [hx, decide_false, Bool.false_eq_true, if_false]; omega
  have hxn : nr = true → a ≠ 0 := by
    intro e; rw [HN.out] at e; simp at e; omega
  have HXA := Lib.hid hxa; clear hxa
  have HXN := Lib.hid hxn; clear hxn ha
  by_cases hk2 : k ≤ 2
  · have hlt := (limbs_len_le a 2).1 (by rw [HXL.out]; exact hk2)
    have hal : a < 18446744073709551616 := hlt
    clear hlt
    go_wp2
    go_loopw [4, 5] (fun u i wr => ∃ j : Nat, j ≤ k ∧ i = .int .i64 j ∧ u = .int .u64 (lowW a j) ∧ wr = W2) (fun _ i _ => k - (intOf i).toNat)
    case atStart => exact ⟨0, Nat.zero_le _, rfl, by rw [lowW_zero], rfl⟩
    case round =>
      obtain ⟨j, hj, rfl, rfl, rfl⟩ := hrel
      by_cases hlt : j < k
      · obtain ⟨b, off, e0, hc⟩ := hsl.cells (by rw [HXL.out]; omega)
        subst e0
        have c1 := hc j (by rw [HXL.out]; omega)
        have hyr := (Wf.limbs a).getD j
        clear hc
        obtain ⟨y, hy⟩ : ∃ y, (limbs a).getD j 0 = y := ⟨_, rfl⟩
        rw [hy] at c1 hyr
        obtain ⟨y0, y1⟩ := hyr
        have HY := Lib.hid hy; clear hy
        rcases (show j = 0 ∨ j = 1 by omega) with h | h
        · subst h
          have hor := or_none64 y0 y1
          rw [lowW_zero]
          rw [Nat.add_zero] at c1
          go_wp2
          go_roundw
          case rel => exact ⟨1, by omega, by go_num, by rw [lowW_one, HY.out], by first | rfl | trivial⟩
          case measure => simp [intOf] <;> omega
        · subst h
          obtain ⟨z, hz⟩ : ∃ z, lowW a 1 = z := ⟨_, rfl⟩
          have hzr := (Wf.limbs a).getD 0
          rw [← lowW_one, hz] at hzr
          have hor := or64 hzr.1 hzr.2 y0 y1
          rw [hz]
          have HZ := Lib.hid hz; clear hz
          go_wp2
          go_roundw
          case rel => exact ⟨2, by omega, by go_num, by rw [lowW_two, HY.out, ← lowW_one, HZ.out], by first | rfl | trivial⟩
          case measure => simp [intOf] <;> omega
      · obtain rfl : j = k := by omega
        rw [lowW_all HXL.out]
        clear hsl
        by_cases h63 : a ≤ 9223372036854775807
        · cases nr with
          | true =>
            have hy := fits_yes (x := x) (by have := HXA.out; simp only [if_true] at this; omega)
            have hx2 : x = -(a : Int) := HXA.out
            have ha0 := HXN.out rfl
            have HY := Lib.hid hy; clear hy
            have HX2 := Lib.hid hx2; clear hx2
            go_wp2
            go_ret2
            refine ⟨?_, by rw [Ext, HBe.out]; exact HBL.out⟩
            rw [HRO.out, HRB.out, HY.out.1, HY.out.2, HX2.out, show -(a : Int) = -((a : Int) - 1) - 1 by omega]; rfl
          | false =>
            have hy := fits_yes (x := x) (by have := HXA.out; simp only [Bool.false_eq_true, if_false] at this; omega)
            have hx2 : x = (a : Int) := HXA.out
            have HY := Lib.hid hy; clear hy
            have HX2 := Lib.hid hx2; clear hx2
            go_wp2
            go_ret2
            refine ⟨?_, by rw [Ext, HBe.out]; exact HBL.out⟩
            rw [HRO.out, HRB.out, HY.out.1, HY.out.2, HX2.out]; rfl
        · cases nr with
          | true =>
            by_cases h64 : a = 9223372036854775808
            · subst h64
              have hx : x = -9223372036854775808 := by have := HXA.out; simp only [if_true] at this; omega
              have HX := Lib.hid hx; clear hx
              go_wp2
              go_ret2
              refine ⟨?_, by rw [Ext, HBe.out]; exact HBL.out⟩
              rw [HRO.out, HRB.out, HX.out]; rfl
            · have hy := fits_no (x := x) (by have := HXA.out; simp only [if_true] at this; omega)
              have HY := Lib.hid hy; clear hy
              go_wp2
              go_ret2
              refine ⟨?_, by rw [Ext, HBe.out]; exact HBL.out⟩
              rw [HRO.out, HRB.out, HY.out.1, HY.out.2]; rfl
          | false =>
            have hy := fits_no (x := x) (by have := HXA.out; simp only [Bool.false_eq_true, if_false] at this; omega)
            have HY := Lib.hid hy; clear hy
            go_wp2
            go_ret2
            refine ⟨?_, by rw [Ext, HBe.out]; exact HBL.out⟩
            rw [HRO.out, HRB.out, HY.out.1, HY.out.2]; rfl
  · have h9 : ¬ a < 4294967296 ^ 2 := by
      have := limbs_len_le a 2
      rw [HXL.out] at this
      omega
    have h10 : ¬ a < 18446744073709551616 := h9
    have hy := fits_no (x := x) (by have := HXA.out; cases nr <;> simp only [Bool.false_eq_true, if_false, if_true] at this <;> omega)
    have HY := Lib.hid hy; clear hy h9 h10 hsl
    go_wp2
    go_ret2
    refine ⟨?_, by rw [Ext, HBe.out]; exact HBL.out⟩
    rw [HRO.out, HRB.out, HY.out.1, HY.out.2]; rfl
end Go.Proofs.YtekocoklfnojmaaGreatDoor

namespace Go.Proofs.YtekocoklfnojmaaGreatDoor
open Go.RowKit

set_option maxRecDepth 100000 in
theorem refFin_any (f : Nat) (hf : f < 18446744073709551616) (b : Bool) (hb : finB f = b) (w : World) :
    Calls Tryz.prog 64 #[.int .u64 (f : Int)] w fun e w' => e = .returned (.bool b) ∧ w = w' := by
  have h1 : (f : Int) / 4503599627370496 = ((f / 4503599627370496 : Nat) : Int) := (Int.natCast_ediv _ _).symm
  have h2 := bits_and_u64_nat (f / 4503599627370496) 2047 (by omega) (by omega)
  rw [show (2047 : Nat) = 2 ^ 11 - 1 from rfl, Nat.and_two_pow_sub_one_eq_mod] at h2
  have h3 : (((f / 4503599627370496 % 2 ^ 11 : Nat) : Int) != 2047) = b := by
    rw [← hb]
    unfold finB fmag
    by_cases h : f % 9223372036854775808 < 9218868437227405312
    · rw [decide_eq_true h]; simp; omega
    · rw [decide_eq_false h]; simp; omega
  obtain ⟨q, hq⟩ : ∃ q : Nat, f / 4503599627370496 % 2 ^ 11 = q := ⟨_, rfl⟩
  rw [hq] at h2 h3
  have h2 : bits BinOp.and IntKind.u64 ((f / 4503599627370496 : Nat) : Int) 2047 = (q : Int) := h2
  rw [← h1] at h2
  clear hb hq h1
  cases b
  all_goals
    go_enter Tryz.func64, Tryz.ntmps64
    go_wp2
    go_ret
    exact ⟨ret_bool (by first | rfl | exact h3), rfl⟩
end Go.Proofs.YtekocoklfnojmaaGreatDoor

namespace Go.Proofs.YtekocoklfnojmaaGreatDoor
theorem rootV_encl {d : Dy} {N : Nat} (h : Is d (1074 + 1074) (N : Int)) :
    rootV d 1 < 9218868437227405312 ∧ fz (rootV d 1) * fz (rootV d 1) ≤ N ∧ rootV d 2 ≤ 9218868437227405312 ∧ (rootV d 2 < 9218868437227405312 → N ≤ fz (rootV d 2) * fz (rootV d 2)) := by
  obtain ⟨m, e, rfl, hnd, hS, hN⟩ := h
  have hp : (0 : Int) < 2 ^ (e + ((1074 + 1074 : Nat) : Int)).toNat := Int.pow_pos (by omega)
  have hm0 : ¬ m < 0 := by
    intro h
    have := Int.mul_neg_of_neg_of_pos h hp
    omega
  have hb := nd_blen hnd
  simp only [dm, dx, Option.getD_some] at hb
  obtain ⟨-, hb0, hb1⟩ := hb
  unfold rootV
  dsimp only
  rw [if_neg hm0, if_neg hm0]
  by_cases h0 : m = 0
  · rw [if_pos h0, if_pos h0]
    have hz : fz 0 = 0 := (fz_zero 0).2 (by decide)
    rw [hz]
    rw [h0, Int.zero_mul] at hN
    refine ⟨by omega, by omega, by omega, fun _ => by omega⟩
  · rw [if_neg h0, if_neg h0]
    obtain ⟨A, rfl⟩ := Int.eq_ofNat_of_zero_le (show 0 ≤ m by omega)
    rw [Int.natAbs_natCast]
    have hA : A ≠ 0 := by omega
    obtain ⟨p, hpp⟩ : ∃ p, (e + ((1074 + 1074 : Nat) : Int)).toNat = p := ⟨_, rfl⟩
    rw [hpp] at hN
    have hN2 : N = A * 2 ^ p := by
      have h1 : ((A * 2 ^ p : Nat) : Int) = (A : Int) * 2 ^ p := by rw [Int.natCast_mul, Int.natCast_pow]; rfl
      have h2 : (N : Int) = ((A * 2 ^ p : Nat) : Int) := by rw [h1]; exact hN
      omega
    subst hN2
    obtain ⟨k1, k2⟩ := rootK_ok (A := A) (e := e)
    have hKb : rootK A e ≤ 127 := by unfold rootK; omega
    have hbig := root_big hA k1
    generalize rootK A e = K at *
    obtain ⟨E, hE⟩ : ∃ E : Int, (e - (K : Int)) / 2 = E := ⟨_, rfl⟩
    have hE2 : 2 * E + (K : Int) = e := by omega
    rw [hE]
    have hs := isq_spec (A * 2 ^ K)
    obtain ⟨t, ht⟩ : ∃ t, decide (isq (A * 2 ^ K) * isq (A * 2 ^ K) ≠ A * 2 ^ K) = t := ⟨_, rfl⟩
    rw [ht]
    have htf : t = false → isq (A * 2 ^ K) * isq (A * 2 ^ K) = A * 2 ^ K := by
      intro h
      rw [h] at ht
      exact Decidable.not_not.1 (of_decide_eq_false ht)
    generalize isq (A * 2 ^ K) = r at *
    obtain ⟨h1, h2⟩ := hs
    obtain ⟨T, hT⟩ : ∃ T : Nat, T = 100000 := ⟨_, rfl⟩
    obtain ⟨q1, q2, q3⟩ := fla_trunc (Q := r) (e := E) t (T := T) (big_53 hbig) (by omega) (by omega)
    have hile : fla false r E t 2 ≤ 9218868437227405312 := fla_le _ _ _ _ _
    generalize fla false r E t 1 = lo at *
    generalize fla false r E t 2 = hi at *
    obtain ⟨c, hc⟩ : ∃ c : Nat, (c : Int) = E + T := ⟨(E + T).toNat, by omega⟩
    have hvv : ∀ x, vu x E T = x * 2 ^ c := fun x => by unfold vu; rw [show (E + (T : Int)).toNat = c by omega]
    rw [hvv] at q2 q3
    unfold fu at q2 q3
    obtain ⟨u, hu⟩ : ∃ u, T - 1074 = u := ⟨_, rfl⟩
    rw [hu] at q2 q3
    have hP : 0 < 2 ^ (u + u) := Nat.pow_pos (by omega)
    have sq : ∀ x k : Nat, x * x * 2 ^ (k + k) = x * 2 ^ k * (x * 2 ^ k) := by
      intro x k
      rw [Nat.pow_add, Nat.mul_mul_mul_comm]
    have eR : A * 2 ^ p * 2 ^ (u + u) = A * 2 ^ K * 2 ^ (c + c) := by
      rw [Nat.mul_assoc, Nat.mul_assoc, ← Nat.pow_add, ← Nat.pow_add]
      refine congrArg (fun x => A * 2 ^ x) ?_
      omega
    refine ⟨q1, ?_, hile, fun hf => ?_⟩
    · refine Nat.le_of_mul_le_mul_right ?_ hP
      rw [eR, sq]
      have g1 := Nat.mul_le_mul q2 q2
      rw [← sq r c] at g1
      exact Nat.le_trans g1 (Nat.mul_le_mul_right _ h1)
    · refine Nat.le_of_mul_le_mul_right ?_ hP
      rw [eR, sq]
      have k4 : (if t = true then r + 1 else r) * 2 ^ c ≤ fz hi * 2 ^ u := by
        rcases q3 with q3 | ⟨_, q3⟩
        · omega
        · exact q3
      have g1 := Nat.mul_le_mul k4 k4
      rw [← sq _ c] at g1
      refine Nat.le_trans (Nat.mul_le_mul_right _ ?_) g1
      cases t with
      | true => simp only [if_true]; omega
      | false => have := htf rfl; simp only [Bool.false_eq_true, if_false]; omega
end Go.Proofs.YtekocoklfnojmaaGreatDoor

namespace Go.Proofs.YtekocoklfnojmaaGreatDoor

theorem dotF_sq (l : List Nat) : 0 ≤ dotF l l := by
  induction l with
  | nil => exact Int.le_refl _
  | cons f l ih =>
    show 0 ≤ fzs f * fzs f + dotF l l
    have h1 : 0 ≤ fzs f * fzs f := by
      rcases Int.le_total 0 (fzs f) with h | h
      · exact Int.mul_nonneg h h
      · have := Int.mul_nonneg (show 0 ≤ -fzs f by omega) (show 0 ≤ -fzs f by omega)
        rwa [Int.neg_mul_neg] at this
    omega
/-- a float that is not negative, squared as a dyad -/
theorem sq_is {g : Nat} (h : g < 9218868437227405312) : finB g = true ∧ Is (dmul (fdy g) (fdy g)) (1074 + 1074) ((fz g * fz g : Nat) : Int) := by
  have hg : finB g = true := by rw [fin_small (by omega)]; exact decide_eq_true h
  refine ⟨hg, ?_⟩
  have h1 := fzs_lt hg
  have hi : Is (dmul (fdy g) (fdy g)) (1074 + 1074) (fzs g * fzs g) := (fdy_is hg).mul (fdy_is hg) (by omega) (B := (52 + low46) + (52 + low46)) (by rw [Int.natAbs_mul, Nat.pow_add]; exact Nat.mul_lt_mul'' h1 h1) (by decide)
  have hn : fneg g = false := by unfold fneg; exact decide_eq_false (by omega)
  have hz : fzs g = (fz g : Int) := by unfold fzs; rw [hn]; rfl
  rw [hz] at hi
  rw [Int.natCast_mul]
  exact hi
theorem norm2_fin {l : List Nat} (hl : l.length ≤ 1000000) (hf : l.all finB = true) : ∃ (D : Dy) (N : Nat), dotR l l = (D, 0) ∧ Is D (1074 + 1074) (N : Int) ∧ ∀ mode, norm2 l mode = rootV D mode := by
  have ha : ∀ f ∈ l, finB f = true := fun f h => List.all_eq_true.1 hf f h
  have hi := dotF_dy ha ha hl
  obtain ⟨N, hN⟩ := Int.eq_ofNat_of_zero_le (dotF_sq l)
  rw [hN] at hi
  have hd : dtotal (prods l l) ≠ none := prods_is hl ha ha
  have hr : dotR l l = (dtotal (prods l l), 0) := by
    unfold dotR chk chkE
    rw [if_neg (by omega), if_neg hd, if_neg hd]
  refine ⟨dtotal (prods l l), N, hr, hi, fun mode => ?_⟩
  unfold norm2
  rw [hr]
  simp
theorem is_some {d : Dy} {S : Nat} {N : Int} (h : Is d S N) : d ≠ none := by obtain ⟨m, e, rfl, _⟩ := h; simp
/-- the comparisons of AccumRoots -/
theorem roots_cmp {D : Dy} {N : Nat} (h : Is D (1074 + 1074) (N : Int)) :
    rootV D 1 < 18446744073709551616 ∧ rootV D 2 < 18446744073709551616 ∧ finB (rootV D 1) = true ∧ dmul (fdy (rootV D 1)) (fdy (rootV D 1)) ≠ none ∧ D ≠ none ∧ sgn3 (sc (dmul (fdy (rootV D 1)) (fdy (rootV D 1)))) (sc D) ≤ 0 ∧
    (rootV D 2 ≠ 9218868437227405312 → finB (rootV D 2) = true ∧ dmul (fdy (rootV D 2)) (fdy (rootV D 2)) ≠ none ∧ sgn3 (sc D) (sc (dmul (fdy (rootV D 2)) (fdy (rootV D 2)))) ≤ 0) := by
  obtain ⟨h1, h2, h3, h4⟩ := rootV_encl h
  obtain ⟨f1, i1⟩ := sq_is h1
  refine ⟨by omega, by omega, f1, is_some i1, is_some h, ?_, fun hne => ?_⟩
  · rw [is_cmp i1 h (by omega)]
    unfold sgn3
    split
    · omega
    · split <;> omega
  · have h5 : rootV D 2 < 9218868437227405312 := by omega
    obtain ⟨f2, i2⟩ := sq_is h5
    refine ⟨f2, is_some i2, ?_⟩
    have h6 := h4 h5
    rw [is_cmp h i2 (by omega)]
    unfold sgn3
    split
    · omega
    · split <;> omega
theorem fdy_blen {f : Nat} (h : finB f = true) : blen (dm (fdy f)).natAbs ≤ 53 := by
  cases hz : zeroB f with
  | true =>
    rw [fdy_zero hz]
    decide
  | false =>
    obtain ⟨p, l, n⟩ := fdy_parts h (sig_ne hz) (tzf_isTz _)
    rw [p]
    show blen ((if fneg f then -((sig f / 2 ^ tzf (sig f) : Nat) : Int) else ((sig f / 2 ^ tzf (sig f) : Nat) : Int))).natAbs ≤ 53
    rw [(sgn_parts (fneg f) n).2.1]
    exact blen_le_of_lt l
end Go.Proofs.YtekocoklfnojmaaGreatDoor

namespace Go.Proofs.YtekocoklfnojmaaGreatDoor
open Go.RowKit

set_option maxRecDepth 100000 in
set_option maxHeartbeats 2000000 in
theorem refDFromInt_any (x : Int) (w : World) (h0 : -9223372036854775808 ≤ x) (h1 : x ≤ 9223372036854775807) (hT : Table w) :
    Calls Tryz.prog 168 #[.int .i64 x] w fun e w' => ∃ v, e = .returned v ∧ Dn w' v (dmk x 0) ∧ Ext w w' := by
  have HT := Lib.hid hT
  have C := Lib.hid (fun w => refFromInt_any x w h0 h1)
  have HBL := Lib.hid (show blen x.natAbs ≤ 1000000 from Nat.le_trans (blen_le_of_lt (show x.natAbs < 2 ^ 64 by omega)) (by omega))
  clear hT h0 h1
  go_enter Tryz.func168, Tryz.ntmps168
  go_upto_region 1 with fail
  obtain ⟨W, hW, hB, r1, hz⟩ := dbox_new w false false none 0 0 0
  rw [← hW]
  clear hW
  have HT := Lib.hid (HT.out.below hB)
  generalize hBe : w.heap.size = B at *
  have HBe := Lib.hid hBe
  clear hBe hz
  go_wp2_with fail
  refine (C.out _).mono ?_
  rintro e w1 ⟨nr, ro, k, cr, rfl, hr, hw1⟩
  have HT := Lib.hid (HT.out.below hw1)
  have c1 := r1.below hw1
  obtain ⟨hB2, hB2'⟩ := bnext hB (Nat.le_of_lt r1.lt) hw1
  have hr := bn_bg_of hr HBL.out
  clear r1 hB hw1
  go_wp2_with fail
  refine (refMake_any _ _ _ _ _ _ _ hr HBL.out (by omega) (by omega) HT.out).mono ?_
  rintro e w5 ⟨v, rfl, hr2, hw5⟩
  have c1 := c1.below hw5
  obtain ⟨hB4, hB4'⟩ := bnext hB2 hB2' hw5
  obtain ⟨rb, rn, ro2, rk, rc, re, rfl⟩ := hr2.parts
  clear hr hw5 hB2
  have q0 := c1.c0
  have q1 := c1.c1
  have q2 := c1.c2
  have q3 := c1.c3
  have f0 := c1.f 0
  have f1 := c1.f 1
  have f2 := c1.f 2
  have f3 := c1.f 3
  have hres := dn_stored c1 hr2 w hB4 (Nat.le_refl _)
  have z3 := c1.stored rb rn ro2 rk rc re
  have z0 := z3.c0
  have z1 := z3.c1
  have z2 := z3.c2
  have z4 := z3.c3
  have HRES := Lib.hid hres; clear hres z3
  go_wp2
  refine bodyPost_ret (v := .agg #[.bool rb, .bool rn, .slice ro2 rk rc, .int .i64 re]) (by simp [results, Tryz.results168, go_sem, z0, z1, z2, z4]) rfl ⟨_, rfl, ?_, ?_⟩
  · exact HRES.out.1
  · show Below _ _ _; rw [HBe.out]; exact HRES.out.2
end Go.Proofs.YtekocoklfnojmaaGreatDoor
