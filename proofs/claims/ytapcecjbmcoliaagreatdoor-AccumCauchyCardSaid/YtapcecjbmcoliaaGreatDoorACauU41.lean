import Derived.Test.YtapcecjbmcoliaaGreatDoorACauU18
import Derived.Test.YtapcecjbmcoliaaGreatDoorACauU40
import Derived.Test.YtapcecjbmcoliaaGreatDoorACauU38
import Derived.Test.YtapcecjbmcoliaaGreatDoorACauU5
import Derived.Test.YtapcecjbmcoliaaGreatDoorACauU20
import Derived.Test.YtapcecjbmcoliaaGreatDoorACauU36
import Derived.Test.YtapcecjbmcoliaaGreatDoorACauU35
import Derived.Test.YtapcecjbmcoliaaGreatDoorACauU16
import Derived.Test.YtapcecjbmcoliaaGreatDoorACauU17
import Derived.Test.YtapcecjbmcoliaaGreatDoorACauU39
import Derived.Test.YtapcecjbmcoliaaGreatDoorACauU6
import Derived.Test.YtapcecjbmcoliaaGreatDoorACauU2
import Derived.Deep.QuietTactic
import Derived.BigQuiet
import Derived.Deep.RegionHeld3
import Derived.Deep.CutRange
import Derived.Test.YtapcecjbmcoliaaGreatDoorACauU7
import Derived.Test.YtapcecjbmcoliaaGreatDoorACauU24
import Derived.Test.YtapcecjbmcoliaaGreatDoorACauU32
import Derived.Test.YtapcecjbmcoliaaGreatDoorACauU23
import Derived.Test.YtapcecjbmcoliaaGreatDoorACauU26
import Derived.Test.YtapcecjbmcoliaaGreatDoorACauU33
namespace Go.Proofs.YtapcecjbmcoliaaGreatDoor
open Go.RowKit

/-- the first j limbs of a number as a word -/
def lowW (a j : Nat) : Int := ((a % 4294967296 ^ j : Nat) : Int)

theorem lowW_zero (a : Nat) : lowW a 0 = 0 := by unfold lowW; rw [Nat.pow_zero, Nat.mod_one]; rfl
theorem lowW_one {a : Nat} : lowW a 1 = (limbs a).getD 0 0 := by
  rw [limbs_at, Nat.pow_zero, Nat.div_one, lowW, Nat.pow_one]
theorem lowW_two {a : Nat} : lowW a 2 = (limbs a).getD 0 0 + (limbs a).getD 1 0 * 4294967296 := by
  rw [limbs_at, limbs_at, Nat.pow_zero, Nat.div_one, Nat.pow_one]
  unfold lowW
  rw [show (4294967296 : Nat) ^ 2 = 4294967296 * 4294967296 from rfl]
  omega
theorem lowW_all {a k : Nat} (h : (limbs a).length = k) : lowW a k = (a : Int) := by
  have h1 := (limbs_len_le a k).1 (by omega)
  unfold lowW
  rw [Nat.mod_eq_of_lt h1]
theorem or_none64 {y : Int} (y0 : 0 ≤ y) (y1 : y < 4294967296) : bits BinOp.or IntKind.u64 0 y = y := by
  obtain ⟨a, rfl⟩ := Int.eq_ofNat_of_zero_le y0
  have e := bits_or_u64_nat 0 a (by omega) (by omega)
  rw [Nat.zero_or] at e
  exact e

set_option maxRecDepth 100000 in
set_option maxHeartbeats 2000000 in
theorem refInt_any (nb : Bool) (ao : Option Addr) (n ca : Nat) (x : Int) (w : World) (h : Bg w nb ao n ca x) :
    Calls Tryz.prog 88 #[.agg #[.bool nb, .slice ao n ca]] w fun e w' => e = .returned (.tuple #[.int .i64 (intOut x), .bool (fitsI x)]) ∧ Ext w w' := by
  obtain ⟨ro, hro⟩ : ∃ v : Value, v = .int .i64 (intOut x) := ⟨_, rfl⟩
  obtain ⟨rb, hrb⟩ : ∃ v : Value, v = .bool (fitsI x) := ⟨_, rfl⟩
  rw [← hro, ← hrb]
  have HRO := Lib.hid hro; clear hro
  have HRB := Lib.hid hrb; clear hrb
  go_enter Tryz.func88, Tryz.ntmps88
  go_wp2_with fail
  obtain ⟨W, hW, hB, hbx, hsz⟩ := box_new w nb ao n ca
  rw [← hW]
  clear hW
  have h0 := h.below hB
  generalize hBe : w.heap.size = B at *
  have HBe := Lib.hid hBe; clear hBe h
  have k0 := hbx.c0
  have k1 := hbx.c1
  go_wp2_with fail
  refine (refNorm_any nb ao n ca x W h0).mono ?_
  rintro e w1 ⟨nr, xo, k, rc, rfl, hs1, hk, hw1⟩
  have b1 := hbx.below hw1
  obtain ⟨h1, z1⟩ := bnext hB (by omega) hw1
  have q0 := b1.c0
  have q1 := b1.c1
  have q2 := b1.f 0
  have q3 := b1.f 1
  have bst := b1.stored nr xo k rc
  have u0 := bst.c0
  have u1 := bst.c1
  have hsl := hs1.sl.only_box b1 (only_set2 w1 B (.bool nr) (.slice xo k rc))
  have HBL := Lib.hid (h1.trans ((only_set2 w1 B (.bool nr) (.slice xo k rc)).below (Nat.le_refl B)))
  have HN := Lib.hid hs1.neg
  generalize hW2 : (w1.setCell ⟨B, 0, none⟩ (.bool nr)).setCell ⟨B, 1, none⟩ (.slice xo k rc) = W2 at *
  have HW2 := Lib.hid hW2
  clear h0 hB hbx k0 k1 h1 hw1 b1 bst hs1
  have hkb := hsl.big
  have hxl := hsl.len
  go_upto_region 2 with fail
  clear hW2 q0 q1 q2 q3
  obtain ⟨a, ha⟩ : ∃ a, x.natAbs = a := ⟨_, rfl⟩
  rw [ha] at hsl hxl
  have HXL := Lib.hid hxl; clear hxl
  have hxa : x = if nr then -(a : Int) else (a : Int) := by
    rw [HN.out]
    by_cases hx : x < 0
    · simp only [hx, decide_true, if_true]; omega
    · simp only [hx, decide_false, Bool.false_eq_true, if_false]; omega
  have hxn : nr = true → a ≠ 0 := by
    intro e; rw [HN.out] at e; simp at e; omega
  have HXA := Lib.hid hxa; clear hxa
  have HXN := Lib.hid hxn; clear hxn ha
  by_cases hk2 : k ≤ 2
  · have hlt := (limbs_len_le a 2).1 (by rw [HXL.out]; exact hk2)
    have hal : a < 18446744073709551616 := hlt
    clear hlt
    go_wp2
    go_loopw [4, 5] (fun u i wr => ∃ j : Nat, j ≤ k ∧ i = .int .i64 j ∧ u = .int .u64 (lowW a j) ∧ wr = W2) (fun _ i _ => k - (intOf i).toNat)
    case atStart => exact ⟨0, Nat.zero_le _, rfl, by rw [lowW_zero], rfl⟩
    case round =>
      obtain ⟨j, hj, rfl, rfl, rfl⟩ := hrel
      by_cases hlt : j < k
      · obtain ⟨b, off, e0, hc⟩ := hsl.cells (by rw [HXL.out]; omega)
        subst e0
        have c1 := hc j (by rw [HXL.out]; omega)
        have hyr := (Wf.limbs a).getD j
        clear hc
        obtain ⟨y, hy⟩ : ∃ y, (limbs a).getD j 0 = y := ⟨_, rfl⟩
        rw [hy] at c1 hyr
        obtain ⟨y0, y1⟩ := hyr
        have HY := Lib.hid hy; clear hy
        rcases (show j = 0 ∨ j = 1 by omega) with h | h
        · subst h
          have hor := or_none64 y0 y1
          rw [lowW_zero]
          rw [Nat.add_zero] at c1
          go_wp2
          go_roundw
          case rel => exact ⟨1, by omega, by go_num, by rw [lowW_one, HY.out], by first | rfl | trivial⟩
          case measure => simp [intOf] <;> omega
        · subst h
          obtain ⟨z, hz⟩ : ∃ z, lowW a 1 = z := ⟨_, rfl⟩
          have hzr := (Wf.limbs a).getD 0
          rw [← lowW_one, hz] at hzr
          have hor := or64 hzr.1 hzr.2 y0 y1
          rw [hz]
          have HZ := Lib.hid hz; clear hz
          go_wp2
          go_roundw
          case rel => exact ⟨2, by omega, by go_num, by rw [lowW_two, HY.out, ← lowW_one, HZ.out], by first | rfl | trivial⟩
          case measure => simp [intOf] <;> omega
      · obtain rfl : j = k := by omega
        rw [lowW_all HXL.out]
        clear hsl
        by_cases h63 : a ≤ 9223372036854775807
        · cases nr with
          | true =>
            have hy := fits_yes (x := x) (by have := HXA.out; simp only [if_true] at this; omega)
            have hx2 : x = -(a : Int) := HXA.out
            have ha0 := HXN.out rfl
            have HY := Lib.hid hy; clear hy
            have HX2 := Lib.hid hx2; clear hx2
            go_wp2
            go_ret2
            refine ⟨?_, by rw [Ext, HBe.out]; exact HBL.out⟩
            rw [HRO.out, HRB.out, HY.out.1, HY.out.2, HX2.out, show -(a : Int) = -((a : Int) - 1) - 1 by omega]; rfl
          | false =>
            have hy := fits_yes (x := x) (by have := HXA.out; simp only [Bool.false_eq_true, if_false] at this; omega)
            have hx2 : x = (a : Int) := HXA.out
            have HY := Lib.hid hy; clear hy
            have HX2 := Lib.hid hx2; clear hx2
            go_wp2
            go_ret2
            refine ⟨?_, by rw [Ext, HBe.out]; exact HBL.out⟩
            rw [HRO.out, HRB.out, HY.out.1, HY.out.2, HX2.out]; rfl
        · cases nr with
          | true =>
            by_cases h64 : a = 9223372036854775808
            · subst h64
              have hx : x = -9223372036854775808 := by have := HXA.out; simp only [if_true] at this; omega
              have HX := Lib.hid hx; clear hx
              go_wp2
              go_ret2
              refine ⟨?_, by rw [Ext, HBe.out]; exact HBL.out⟩
              rw [HRO.out, HRB.out, HX.out]; rfl
            · have hy := fits_no (x := x) (by have := HXA.out; simp only [if_true] at this; omega)
              have HY := Lib.hid hy; clear hy
              go_wp2
              go_ret2
              refine ⟨?_, by rw [Ext, HBe.out]; exact HBL.out⟩
              rw [HRO.out, HRB.out, HY.out.1, HY.out.2]; rfl
          | false =>
            have hy := fits_no (x := x) (by have := HXA.out; simp only [Bool.false_eq_true, if_false] at this; omega)
            have HY := Lib.hid hy; clear hy
            go_wp2
            go_ret2
            refine ⟨?_, by rw [Ext, HBe.out]; exact HBL.out⟩
            rw [HRO.out, HRB.out, HY.out.1, HY.out.2]; rfl
  · have h9 : ¬ a < 4294967296 ^ 2 := by
      have := limbs_len_le a 2
      rw [HXL.out] at this
      omega
    have h10 : ¬ a < 18446744073709551616 := h9
    have hy := fits_no (x := x) (by have := HXA.out; cases nr <;> simp only [Bool.false_eq_true, if_false, if_true] at this <;> omega)
    have HY := Lib.hid hy; clear hy h9 h10 hsl
    go_wp2
    go_ret2
    refine ⟨?_, by rw [Ext, HBe.out]; exact HBL.out⟩
    rw [HRO.out, HRB.out, HY.out.1, HY.out.2]; rfl
end Go.Proofs.YtapcecjbmcoliaaGreatDoor

namespace Go.Proofs.YtapcecjbmcoliaaGreatDoor
open Go.RowKit

set_option maxRecDepth 100000 in
theorem refFin_any (f : Nat) (hf : f < 18446744073709551616) (b : Bool) (hb : finB f = b) (w : World) :
    Calls Tryz.prog 13 #[.int .u64 (f : Int)] w fun e w' => e = .returned (.bool b) ∧ w = w' := by
  have h1 : (f : Int) / 4503599627370496 = ((f / 4503599627370496 : Nat) : Int) := (Int.natCast_ediv _ _).symm
  have h2 := bits_and_u64_nat (f / 4503599627370496) 2047 (by omega) (by omega)
  rw [show (2047 : Nat) = 2 ^ 11 - 1 from rfl, Nat.and_two_pow_sub_one_eq_mod] at h2
  have h3 : (((f / 4503599627370496 % 2 ^ 11 : Nat) : Int) != 2047) = b := by
    rw [← hb]
    unfold finB fmag
    by_cases h : f % 9223372036854775808 < 9218868437227405312
    · rw [decide_eq_true h]; simp; omega
    · rw [decide_eq_false h]; simp; omega
  obtain ⟨q, hq⟩ : ∃ q : Nat, f / 4503599627370496 % 2 ^ 11 = q := ⟨_, rfl⟩
  rw [hq] at h2 h3
  have h2 : bits BinOp.and IntKind.u64 ((f / 4503599627370496 : Nat) : Int) 2047 = (q : Int) := h2
  rw [← h1] at h2
  clear hb hq h1
  cases b
  all_goals
    go_enter Tryz.func13, Tryz.ntmps13
    go_wp2
    go_ret
    exact ⟨ret_bool (by first | rfl | exact h3), rfl⟩
end Go.Proofs.YtapcecjbmcoliaaGreatDoor

namespace Go.Proofs.YtapcecjbmcoliaaGreatDoor

theorem dotF_sq (l : List Nat) : 0 ≤ dotF l l := by
  induction l with
  | nil => exact Int.le_refl _
  | cons f l ih =>
    show 0 ≤ fzs f * fzs f + dotF l l
    have h1 : 0 ≤ fzs f * fzs f := by
      rcases Int.le_total 0 (fzs f) with h | h
      · exact Int.mul_nonneg h h
      · have := Int.mul_nonneg (show 0 ≤ -fzs f by omega) (show 0 ≤ -fzs f by omega)
        rwa [Int.neg_mul_neg] at this
    omega
/-- a float that is not negative, squared as a dyad -/
theorem sq_is {g : Nat} (h : g < 9218868437227405312) : finB g = true ∧ Is (dmul (fdy g) (fdy g)) (1074 + 1074) ((fz g * fz g : Nat) : Int) := by
  have hg : finB g = true := by rw [fin_small (by omega)]; exact decide_eq_true h
  refine ⟨hg, ?_⟩
  have h1 := fzs_lt hg
  have hi : Is (dmul (fdy g) (fdy g)) (1074 + 1074) (fzs g * fzs g) := (fdy_is hg).mul (fdy_is hg) (by omega) (B := (52 + low46) + (52 + low46)) (by rw [Int.natAbs_mul, Nat.pow_add]; exact Nat.mul_lt_mul'' h1 h1) (by decide)
  have hn : fneg g = false := by unfold fneg; exact decide_eq_false (by omega)
  have hz : fzs g = (fz g : Int) := by unfold fzs; rw [hn]; rfl
  rw [hz] at hi
  rw [Int.natCast_mul]
  exact hi
theorem fdy_blen {f : Nat} (h : finB f = true) : blen (dm (fdy f)).natAbs ≤ 53 := by
  cases hz : zeroB f with
  | true =>
    rw [fdy_zero hz]
    decide
  | false =>
    obtain ⟨p, l, n⟩ := fdy_parts h (sig_ne hz) (tzf_isTz _)
    rw [p]
    show blen ((if fneg f then -((sig f / 2 ^ tzf (sig f) : Nat) : Int) else ((sig f / 2 ^ tzf (sig f) : Nat) : Int))).natAbs ≤ 53
    rw [(sgn_parts (fneg f) n).2.1]
    exact blen_le_of_lt l
end Go.Proofs.YtapcecjbmcoliaaGreatDoor

namespace Go.Proofs.YtapcecjbmcoliaaGreatDoor

theorem cs_sq (a : Int) : 0 ≤ a * a := by
  rcases Int.le_total 0 a with h | h
  · exact Int.mul_nonneg h h
  · have := Int.mul_nonneg (show 0 ≤ -a by omega) (show 0 ≤ -a by omega)
    rwa [Int.neg_mul_neg] at this
/-- the square of a sum of multiples, summed over the entries -/
theorem cs_form (s t : Int) : ∀ (x y : List Nat), x.length = y.length → 0 ≤ s * s * dotF x x + 2 * (s * t * dotF x y) + t * t * dotF y y
  | [], [], _ => by simp [dotF]
  | [], _ :: _, h => by simp at h
  | _ :: _, [], h => by simp at h
  | f :: x, g :: y, h => by
    have ih := cs_form s t x y (by simpa using h)
    have h1 := cs_sq (s * fzs f + t * fzs g)
    simp only [dotF]
    generalize dotF x x = B at *
    generalize dotF x y = A at *
    generalize dotF y y = C at *
    generalize fzs f = a at *
    generalize fzs g = b at *
    have h2 : s * s * (a * a + B) + 2 * (s * t * (a * b + A)) + t * t * (b * b + C) = (s * a + t * b) * (s * a + t * b) + (s * s * B + 2 * (s * t * A) + t * t * C) := by grind
    rw [h2]
    omega
theorem cs_step {a b A B C : Int} (h : A * A ≤ B * C) (q : 0 ≤ b * b * B + 2 * (b * -a * A) + -a * -a * C) : (a * b + A) * (a * b + A) ≤ (a * a + B) * (b * b + C) := by
  have e1 : (a * b + A) * (a * b + A) = a * a * (b * b) + 2 * (a * b * A) + A * A := by grind
  have e2 : (a * a + B) * (b * b + C) = a * a * (b * b) + (a * a * C + b * b * B) + B * C := by grind
  have e3 : b * b * B + 2 * (b * -a * A) + -a * -a * C = (a * a * C + b * b * B) - 2 * (a * b * A) := by grind
  rw [e3] at q
  rw [e1, e2]
  omega
theorem cs_le : ∀ (x y : List Nat), x.length = y.length → dotF x y * dotF x y ≤ dotF x x * dotF y y
  | [], [], _ => by simp [dotF]
  | [], _ :: _, h => by simp at h
  | _ :: _, [], h => by simp at h
  | f :: x, g :: y, h => by
    have hl : x.length = y.length := by simpa using h
    exact cs_step (cs_le x y hl) (cs_form (fzs g) (-fzs f) x y hl)

theorem dotF_bits {l m : List Nat} (h : ∀ f ∈ l, finB f = true) (h' : ∀ f ∈ m, finB f = true) (hl : l.length ≤ 1000000) : (dotF l m).natAbs < 2 ^ (20 + ((52 + low46) + (52 + low46))) := by
  have h1 := dotF_lt h h'
  have h2 : l.length * 2 ^ ((52 + low46) + (52 + low46)) ≤ 1000000 * 2 ^ ((52 + low46) + (52 + low46)) := Nat.mul_le_mul_right _ hl
  have h3 : 1000000 * 2 ^ ((52 + low46) + (52 + low46)) < 2 ^ 20 * 2 ^ ((52 + low46) + (52 + low46)) := Nat.mul_lt_mul_of_pos_right (by omega) (Nat.pow_pos (by omega))
  rw [← Nat.pow_add] at h3
  omega
theorem Is.bits {d : Dy} {S B : Nat} {N : Int} (h : Is d S N) (hN : N.natAbs < 2 ^ B) : blen (dm d).natAbs ≤ B := by
  obtain ⟨m, e, rfl, _, _, rfl⟩ := h
  refine blen_le_of_lt ?_
  simp only [dm, Option.getD_some]
  rw [natAbs_shift] at hN
  have h1 : 0 < 2 ^ (e + S).toNat := Nat.pow_pos (by omega)
  have h2 := Nat.le_mul_of_pos_right m.natAbs h1
  omega

theorem gmax_mem (l : List Nat) : gmax l = 0 ∨ ∃ f ∈ l, gmax l = fabsF f := by
  have key : ∀ (l : List Nat) (g : Nat), l.foldl (fun g f => max g (fabsF f)) g = g ∨ ∃ f ∈ l, l.foldl (fun g f => max g (fabsF f)) g = fabsF f := by
    intro l
    induction l with
    | nil => intro g; exact Or.inl rfl
    | cons f l ih =>
      intro g
      rw [List.foldl_cons]
      rcases ih (max g (fabsF f)) with h | ⟨k, hk, h⟩
      · rcases Nat.le_total g (fabsF f) with h1 | h1
        · rw [h, Nat.max_eq_right h1]
          exact Or.inr ⟨f, List.mem_cons_self, rfl⟩
        · rw [h, Nat.max_eq_left h1]
          exact Or.inl rfl
      · exact Or.inr ⟨k, List.mem_cons_of_mem _ hk, h⟩
  exact key l 0

theorem abs_fin {l : List Nat} (h : ∀ f ∈ l, finB f = true) : ∀ f ∈ l.map fabsF, finB f = true := by
  intro f hf
  obtain ⟨g, hg, rfl⟩ := List.mem_map.1 hf
  exact (fabs_facts (h g hg)).2.1
theorem abs_sum : ∀ {l : List Nat}, (∀ f ∈ l, finB f = true) → (sumF l).natAbs ≤ sumF (l.map fabsF) ∧ ∀ f ∈ l, (fz f : Int) ≤ sumF (l.map fabsF)
  | [], _ => by simp [sumF]
  | f :: l, h => by
    obtain ⟨h1, h2⟩ := abs_sum (l := l) fun g hg => h g (List.mem_cons_of_mem _ hg)
    have h3 := (fabs_facts (h f List.mem_cons_self)).2.2.2.1
    have h4 := fzs_abs f
    have h5 := Int.natAbs_add_le (fzs f) (sumF l)
    simp only [List.map_cons, sumF, h3]
    refine ⟨by omega, fun g hg => ?_⟩
    rcases List.mem_cons.1 hg with rfl | hg
    · omega
    · have := h2 g hg
      omega
theorem sq_dot : ∀ {l : List Nat} (f : Nat), f ∈ l → (fz f : Int) * fz f ≤ dotF l l
  | [], _, h => by simp at h
  | g :: l, f, h => by
    simp only [dotF]
    rcases List.mem_cons.1 h with rfl | h
    · have h1 := dotF_sq l
      have h2 : fzs f * fzs f = (fz f : Int) * fz f := by unfold fzs; split <;> simp [Int.neg_mul_neg]
      omega
    · have h1 := sq_dot f h
      have h2 := cs_sq (fzs g)
      omega

theorem dot_fin {x y : List Nat} (hl : x.length ≤ 1000000) (he : x.length = y.length) (hx : ∀ f ∈ x, finB f = true) (hy : ∀ f ∈ y, finB f = true) :
    ∃ D, dotR x y = (D, 0) ∧ Is D (1074 + 1074) (dotF x y) ∧ blen (dm D).natAbs ≤ 6000 := by
  have hi := dotF_dy hx hy hl
  have hd : dtotal (prods x y) ≠ none := prods_is hl hx hy
  refine ⟨dtotal (prods x y), ?_, hi, Nat.le_trans (hi.bits (dotF_bits hx hy hl)) (by decide)⟩
  unfold dotR chk chkE
  rw [if_neg (by omega), if_neg hd, if_neg hd]

theorem le_sgn {a b : Int} (h : a ≤ b) : sgn3 a b ≤ 0 := by
  unfold sgn3
  split
  · omega
  · split <;> omega

/-- the four comparisons of AccumCauchy -/
theorem cauchy_facts {x y : List Nat} (hl : x.length ≤ 1000000) (he : x.length = y.length) (hxa : x.all finB = true) (hya : y.all finB = true) :
    ∃ A B C c1 c2 c3 c4, dotR x y = (A, 0) ∧ dotR x x = (B, 0) ∧ dotR y y = (C, 0) ∧ blen (dm A).natAbs ≤ 6000 ∧ blen (dm B).natAbs ≤ 6000 ∧ blen (dm C).natAbs ≤ 6000 ∧ blen (dm (fdy (gmax x))).natAbs ≤ 3100 ∧
    (DcmpIs (dmul A A) (dmul B C) c1 true ∧ c1 ≤ 0) ∧ (DcmpIs (fdy (gmax x)) (dtotal ((x.map fabsF).map fdy)) c2 true ∧ c2 ≤ 0) ∧
    (DcmpIs (dabs (dtotal (x.map fdy))) (dtotal ((x.map fabsF).map fdy)) c3 true ∧ c3 ≤ 0) ∧ DcmpIs (dmul (fdy (gmax x)) (fdy (gmax x))) B c4 true ∧ c4 ≤ 0 := by
  have hx : ∀ f ∈ x, finB f = true := fun f h => List.all_eq_true.1 hxa f h
  have hy : ∀ f ∈ y, finB f = true := fun f h => List.all_eq_true.1 hya f h
  obtain ⟨A, a1, a2, a3⟩ := dot_fin hl he hx hy
  obtain ⟨B, b1, b2, b3⟩ := dot_fin hl rfl hx hx
  obtain ⟨C, e1, e2, e3⟩ := dot_fin (by omega) rfl hy hy
  have kA := dotF_bits hx hy hl
  have kB := dotF_bits hx hx hl
  have kC := dotF_bits hy hy (by omega)
  have iAA := a2.mul a2 (by omega) (B := (20 + ((52 + low46) + (52 + low46))) + (20 + ((52 + low46) + (52 + low46)))) (by rw [Int.natAbs_mul, Nat.pow_add]; exact Nat.mul_lt_mul'' kA kA) (by decide)
  have iBC := b2.mul e2 (by omega) (B := (20 + ((52 + low46) + (52 + low46))) + (20 + ((52 + low46) + (52 + low46)))) (by rw [Int.natAbs_mul, Nat.pow_add]; exact Nat.mul_lt_mul'' kB kC) (by decide)
  have hg : finB (gmax x) = true := by rw [gmax_fin]; exact hxa
  have hg' : gmax x < 9218868437227405312 := by
    rw [fin_small (gmax_lt x)] at hg
    exact of_decide_eq_true hg
  have hn : fneg (gmax x) = false := by unfold fneg; exact decide_eq_false (by omega)
  have hz : fzs (gmax x) = (fz (gmax x) : Int) := pos_fzs hn
  have iI := fdy_is hg
  have iO := sumF_dy (abs_fin hx) (by rw [List.length_map]; exact hl)
  have iT := (sumF_dy hx hl).abs
  have iII := (sq_is hg').2
  obtain ⟨s1, s2⟩ := abs_sum hx
  have g1 : (fz (gmax x) : Int) ≤ sumF (x.map fabsF) ∧ (fz (gmax x) : Int) * fz (gmax x) ≤ dotF x x := by
    rcases gmax_mem x with h | ⟨f, hf, h⟩
    · rw [h, fz_zero0]
      have := dotF_sq x
      exact ⟨by omega, by simpa using this⟩
    · rw [h, (fabs_facts (hx f hf)).2.2.2.2]
      exact ⟨s2 f hf, sq_dot f hf⟩
  rw [hz] at iI
  refine ⟨A, B, C, _, _, _, _, a1, b1, e1, a3, b3, e3, ?_, ⟨is_dcmpS iAA iBC (by omega), le_sgn (cs_le x y he)⟩, ⟨is_dcmpS iI iO (by omega), le_sgn g1.1⟩, ⟨is_dcmpS iT iO (by omega), le_sgn s1⟩, is_dcmpS iII b2 (by omega), le_sgn (by rw [Int.natCast_mul]; exact g1.2)⟩
  have := fdy_blen hg
  omega
end Go.Proofs.YtapcecjbmcoliaaGreatDoor
