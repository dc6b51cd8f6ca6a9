/- What math/bits.Div32 does where it does not panic. -/
import Derived.Test.YtjohpdobnedilaaGreatDoorGa
import Derived.Laws.Bits64
import Derived.Laws.Bits64b
import Derived.Deep.QuietTactic
import Derived.BigQuiet
import Derived.Test.YtjohpdobnedilaaGreatDoorGb
import Derived.Laws.ShiftsVar
import Derived.Laws.ShiftsVarLaws
import Derived.BigRegion
import Derived.RegionTactic
import Derived.ChangeAlike
import Derived.Shelf.Small.Bits
import Derived.Test.YtjohpdobnedilaaGreatDoorProg
namespace Go.Proofs.YtjohpdobnedilaaGreatDoor
open Go.RowKit

theorem or_hl {h l : Int} (h0 : 0 ≤ h) (h1 : h < 4294967296) (l0 : 0 ≤ l) (l1 : l < 4294967296) : bits BinOp.or IntKind.u64 (h * 4294967296) l = h * 4294967296 + l := by
  obtain ⟨a, rfl⟩ := Int.eq_ofNat_of_zero_le h0
  obtain ⟨b, rfl⟩ := Int.eq_ofNat_of_zero_le l0
  have e := bits_or_u64_nat (a * 4294967296) b (by omega) (by omega)
  have e2 : a * 4294967296 ||| b = a * 4294967296 + b := by
    have := Nat.two_pow_add_eq_or_of_lt (i := 32) (b := b) (by omega) a
    rw [show (2 : Nat) ^ 32 = 4294967296 from rfl] at this
    rw [Nat.mul_comm a, ← this]
  rw [e2] at e
  simpa using e

set_option maxRecDepth 100000 in
set_option maxHeartbeats 1000000 in
theorem div32_any (h l y : Int) (w : World) (h0 : 0 ≤ h) (hy : h < y) (y1 : y < 4294967296) (l0 : 0 ≤ l) (l1 : l < 4294967296) :
    Calls Tryz.prog 221 #[.int .u32 h, .int .u32 l, .int .u32 y] w fun e w' => e = .returned (.tuple #[.int .u32 ((h * 4294967296 + l) / y), .int .u32 ((h * 4294967296 + l) % y)]) ∧ ∃ q, w' = w.drewN q := by
  have hyb : (y != 0) = true := by simp; omega
  have hq0 : 0 ≤ (h * 4294967296 + l) / y := Int.ediv_nonneg (by omega) (by omega)
  have hq1 : (h * 4294967296 + l) / y < 4294967296 := by
    apply Int.ediv_lt_of_lt_mul (by omega)
    have : (h + 1) * 4294967296 ≤ y * 4294967296 := Int.mul_le_mul_of_nonneg_right (by omega) (by omega)
    rw [Int.mul_comm 4294967296 y]
    omega
  have hr0 : 0 ≤ (h * 4294967296 + l) % y := Int.emod_nonneg _ (by omega)
  have hr1 : (h * 4294967296 + l) % y < y := Int.emod_lt_of_pos _ (by omega)
  have hor := or_hl h0 (by omega) l0 l1
  have hge : decide (y ≤ h) = false := by simp; omega
  go_enter Tryz.func221, Tryz.ntmps221
  go_wp2
  go_quiet (fail)
  go_wp2
  go_ret2
  exact ⟨rfl, nq, rfl⟩
end Go.Proofs.YtjohpdobnedilaaGreatDoor

/- What integer.divideByLimb does: quotient and remainder by one limb. -/
namespace Go.Proofs.YtjohpdobnedilaaGreatDoor
open Go.RowKit

/-- from limb k on the quotient stands in Q, and r is left -/
def Quot (L Q : List Int) (k : Nat) (r b : Int) : Prop :=
  Q.length = L.length ∧ Wf Q ∧ 0 ≤ r ∧ r < b ∧ num (L.drop k) = num (Q.drop k) * b + r

theorem num_drop (zs : List Int) (j : Nat) (h : j < zs.length) : num (zs.drop j) = zs.getD j 0 + 4294967296 * num (zs.drop (j + 1)) := by
  rw [List.drop_eq_getElem_cons h, ← getD_at h]; rfl

theorem Quot.step {L Q : List Int} {j : Nat} {r b : Int} (h : Quot L Q (j + 1) r b) (hj : j < L.length) (hq : 0 ≤ (r * 4294967296 + L.getD j 0) / b ∧ (r * 4294967296 + L.getD j 0) / b < 4294967296) (hb : 0 < b) :
    Quot L (Q.set j ((r * 4294967296 + L.getD j 0) / b)) j ((r * 4294967296 + L.getD j 0) % b) b := by
  obtain ⟨h1, h2, h3, h4, h5⟩ := h
  refine ⟨by simpa using h1, h2.set _ hq, Int.emod_nonneg _ (by omega), Int.emod_lt_of_pos _ hb, ?_⟩
  rw [num_drop L j hj, num_drop (Q.set j _) j (by simpa [h1] using hj), h5, List.drop_set_of_lt (by omega)]
  have e : (Q.set j ((r * 4294967296 + L.getD j 0) / b)).getD j 0 = (r * 4294967296 + L.getD j 0) / b := by
    simp [List.getD, h1, hj]
  rw [e]
  have ed := Int.mul_ediv_add_emod (r * 4294967296 + L.getD j 0) b
  rw [Int.mul_comm] at ed
  rw [Int.add_mul, Int.mul_assoc, Int.mul_add]
  omega

set_option maxRecDepth 100000 in
set_option maxHeartbeats 1000000 in
theorem divLimb_any (a : Nat) (ao : Option Addr) (n ca : Nat) (b : Int) (w : World) (ha : Sl w ao n ca (limbs a)) (hb0 : 0 < b) (hb1 : b < 4294967296) :
    Calls Tryz.prog 196 #[.slice ao n ca, .int .u32 b] w fun e w' => ∃ qo qk qc ro rk rc, e = .returned (.tuple #[.slice qo qk qc, .slice ro rk rc]) ∧
      Sl w' qo qk qc (limbs (a / b.toNat)) ∧ Sl w' ro rk rc (limbs (a % b.toNat)) ∧ Below w.heap.size w w' := by
  have hn := ha.big
  go_enter Tryz.func196, Tryz.ntmps196
  go_wp2_with (refine wpList_make_u32 _ rfl _ _ rfl _ n rfl rfl rfl hn ?_)
  intro w1 hb1' hw1
  have hsa := ha.cells.stay_below hw1 (Nat.le_refl _)
  have hal := ha.len
  have HAL := Lib.hid hal; clear hal
  have hwa := ha.wf
  generalize hg : w.heap.size = g at *
  have HG := Lib.hid hg; clear hg
  go_wp2
  go_loopw [6, 7] (fun r i wr => ∃ (k : Nat) (rr : Int) (Q : List Int), k ≤ n ∧ i = .int .i64 ((k : Int) - 1) ∧ r = .int .u32 rr ∧ Quot (limbs a) Q k rr b ∧ Blk wr g Q ∧ Only g w1 wr)
    (fun _ i _ => (intOf i + 1).toNat)
  case atStart => exact ⟨n, 0, _, Nat.le_refl _, rfl, rfl, ⟨by simp [HAL.out], Wf.replicate _, by omega, hb0, by rw [List.drop_eq_nil_of_le (by rw [HAL.out]; exact Nat.le_refl _), List.drop_eq_nil_of_le (by simp)]; simp [num]⟩, hb1', Only.refl g w1⟩
  case round =>
    obtain ⟨k, rr, Q, hk, rfl, rfl, hQ, hbk, ho⟩ := hrel
    have HQ := Lib.hid hQ; clear hQ
    by_cases hlt : 0 < k
    · obtain ⟨j, rfl⟩ : ∃ j, k = j + 1 := ⟨k - 1, by omega⟩
      obtain ⟨bb, ob, rfl, hcb⟩ := hsa _ ho (by rw [HAL.out]; omega)
      have c1 := hcb j (by rw [HAL.out]; omega)
      clear hcb
      have hxr := hwa.getD j
      obtain ⟨x, hx⟩ : ∃ x, (limbs a).getD j 0 = x := ⟨_, rfl⟩
      rw [hx] at c1 hxr
      have HX := Lib.hid hx; clear hx
      obtain ⟨x0, x1⟩ := hxr
      have r0 := HQ.out.2.2.1
      have r1 := HQ.out.2.2.2.1
      have c2 := hbk.cell j (by rw [HQ.out.1, HAL.out]; omega)
      have c3 := hbk.frozen j
      have ej : ((j + 1 : Nat) : Int) - 1 = (j : Int) := by omega
      rw [ej]
      clear ej
      go_wp2_with fail
      refine (div32_any rr x b wr r0 r1 hb1 x0 x1).mono ?_
      rintro e w2 ⟨rfl, q, rfl⟩
      go_wp2
      go_roundw
      case rel =>
        have hq0 : 0 ≤ (rr * 4294967296 + x) / b := Int.ediv_nonneg (by omega) (by omega)
        have hq1 : (rr * 4294967296 + x) / b < 4294967296 := by
          apply Int.ediv_lt_of_lt_mul hb0
          have : (rr + 1) * 4294967296 ≤ b * 4294967296 := Int.mul_le_mul_of_nonneg_right (by omega) (by omega)
          rw [Int.mul_comm 4294967296 b]
          omega
        have st := HQ.out.step (by rw [HAL.out]; omega) (by rw [HX.out]; exact ⟨hq0, hq1⟩) hb0
        rw [HX.out] at st
        exact ⟨j, _, _, by omega, by go_num, rfl, st, (hbk.drewN q).set _ _, (ho.drewN q).setCell _ _⟩
      case measure => simp [intOf] <;> omega
    · obtain rfl : k = 0 := by omega
      have hlen : Q.length = n := by rw [HQ.out.1, HAL.out]
      go_wp2_with fail
      refine (trim_sl _ _ _ Q wr (hbk.sl HQ.out.2.1 hlen hn (Nat.le_refl _))).mono ?_
      rintro e w4 ⟨i, rfl, hs, rfl⟩
      have HLn := Lib.hid hlen; clear hlen
      go_wp2_with fail
      have hbr : Blk (wr.alloc (.cells #[.int .u32 rr] 64)) wr.heap.size [rr] := heap_alloc_new wr _
      refine (trim_sl _ _ _ [rr] _ (hbr.sl (n := 1) (Wf.cons ⟨HQ.out.2.2.1, by have := HQ.out.2.2.2.1; omega⟩ Wf.nil) rfl (by omega) (Nat.le_refl _))).mono ?_
      rintro e w5 ⟨i2, rfl, hs2, rfl⟩
      have hbw := (Below.refl wr.heap.size wr).alloc (Nat.le_refl _) (.cells #[.int .u32 rr] 64)
      go_wp2
      go_ret2
      obtain ⟨_, hwf, r0, r1, he⟩ := HQ.out
      rw [List.drop_zero, List.drop_zero, num_limbs] at he
      have hq0 := num_nonneg hwf
      have hdv : num Q = (a : Int) / b := by
        rw [he, Int.add_comm, Int.add_mul_ediv_right _ _ (by omega), Int.ediv_eq_zero_of_lt r0 r1]; omega
      have hmd : rr = (a : Int) % b := by
        rw [he, Int.add_comm, Int.add_mul_emod_self_right, Int.emod_eq_of_lt r0 r1]
      have hbn : ((b.toNat : Nat) : Int) = b := Int.toNat_of_nonneg (by omega)
      refine ⟨_, i, _, _, i2, _, rfl, ?_, ?_, ?_⟩
      · have := hs.below hbw
        rw [hdv, ← hbn, ← Int.natCast_ediv, Int.toNat_natCast] at this
        exact this
      · have e2 : num [rr] = rr := by simp [num]
        have e3 : (num [rr]).toNat = a % b.toNat := by rw [e2, hmd, ← hbn, ← Int.natCast_emod, Int.toNat_natCast, hbn]
        rw [e3] at hs2
        exact hs2
      · rw [HG.out]
        have hb2 := hw1.trans (ho.below (Nat.le_refl g))
        exact hb2.trans (hbw.mono (Nat.le_of_lt hbk.lt))
end Go.Proofs.YtjohpdobnedilaaGreatDoor

/- What integer.divide does: quotient and remainder, where the dividend is less or the divisor has one limb. -/
namespace Go.Proofs.YtjohpdobnedilaaGreatDoor
open Go.RowKit

set_option maxRecDepth 100000 in
set_option maxHeartbeats 1000000 in
theorem divide_less (a b : Nat) (ao bo : Option Addr) (n m ca cb : Nat) (w : World) (ha : Sl w ao n ca (limbs a)) (hb : Sl w bo m cb (limbs b)) (hab : a < b) :
    Calls Tryz.prog 163 #[.slice ao n ca, .slice bo m cb] w fun e w' => ∃ qo qk qc ro rk rc, e = .returned (.tuple #[.slice qo qk qc, .slice ro rk rc]) ∧
      Sl w' qo qk qc (limbs (a / b)) ∧ Sl w' ro rk rc (limbs (a % b)) ∧ Below w.heap.size w w' := by
  have hs : decide (sgn3 (a : Int) b < 0) = true := by simp [sgn3]; omega
  have H := Lib.hid hab; clear hab
  go_enter Tryz.func163, Tryz.ntmps163
  go_wp2_with fail
  refine (compare_any _ _ _ _ _ _ _ _ _ ha hb).mono ?_
  rintro e w1 ⟨rfl, q, rfl⟩
  go_wp2_with fail
  refine (clone_any _ _ _ _ _ (ha.drewN q)).mono ?_
  rintro e w2 ⟨rfl, hb2, hw2⟩
  go_wp2
  go_ret2
  refine ⟨_, _, _, _, _, _, rfl, ?_, ?_, ?_⟩
  · rw [Nat.div_eq_of_lt H.out, limbs_zero]; exact Sl.nil _
  · rw [Nat.mod_eq_of_lt H.out]
    exact hb2.sl (Wf.limbs a) ha.len ha.big (Nat.le_refl _)
  · exact (below_drewN (Below.refl _ w) q).trans hw2

set_option maxRecDepth 100000 in
set_option maxHeartbeats 1000000 in
theorem divide_limb (a b : Nat) (ao bo : Option Addr) (n ca cb : Nat) (w : World) (ha : Sl w ao n ca (limbs a)) (hb : Sl w bo 1 cb (limbs b)) (hab : b ≤ a) :
    Calls Tryz.prog 163 #[.slice ao n ca, .slice bo 1 cb] w fun e w' => ∃ qo qk qc ro rk rc, e = .returned (.tuple #[.slice qo qk qc, .slice ro rk rc]) ∧
      Sl w' qo qk qc (limbs (a / b)) ∧ Sl w' ro rk rc (limbs (a % b)) ∧ Below w.heap.size w w' := by
  have hs : decide (sgn3 (a : Int) b < 0) = false := by simp [sgn3]; omega
  have H := Lib.hid hab; clear hab
  obtain ⟨bb, ob, rfl, hc⟩ := hb.cells (by rw [hb.len]; omega)
  have c1 := hc 0 (by rw [hb.len]; omega)
  clear hc
  have hbl := hb.len
  have hb1 := (limbs_len_le b 1).1 (by omega)
  have hbn : b ≠ 0 := by rintro rfl; rw [limbs_zero] at hbl; cases hbl
  have hb0 : (limbs b).getD 0 0 = (b : Int) := by
    rw [limbs_pos hbn]; simp [List.getD]; omega
  rw [hb0, Nat.add_zero] at c1
  have HBL := Lib.hid hbl; clear hbl hb0
  go_enter Tryz.func163, Tryz.ntmps163
  go_wp2_with fail
  refine (compare_any _ _ _ _ _ _ _ _ _ ha hb).mono ?_
  rintro e w1 ⟨rfl, q, rfl⟩
  go_wp2_with fail
  refine (divLimb_any _ _ _ _ (b : Int) _ (ha.drewN q) (by omega) (by omega)).mono ?_
  rintro e w2 ⟨qo, qk, qc, ro, rk, rc, rfl, hq, hr, hw2⟩
  go_wp2
  go_ret2
  rw [Int.toNat_natCast] at hq hr
  exact ⟨_, _, _, _, _, _, rfl, hq, hr, (below_drewN (Below.refl _ w) q).trans hw2⟩
end Go.Proofs.YtjohpdobnedilaaGreatDoor

/- What integer.DivMod does, from what integer.divide does. -/
namespace Go.Proofs.YtjohpdobnedilaaGreatDoor
open Go.RowKit

/-- what divide gives for a and b -/
def DivSays (a b : Nat) : Prop := ∀ (ao bo : Option Addr) (n m ca cb : Nat) (w : World), Sl w ao n ca (limbs a) → Sl w bo m cb (limbs b) → n ≤ 100000000 → m ≤ 1000000000 →
    Calls Tryz.prog 163 #[.slice ao n ca, .slice bo m cb] w fun e w' => ∃ qo qk qc ro rk rc, e = .returned (.tuple #[.slice qo qk qc, .slice ro rk rc]) ∧
      Sl w' qo qk qc (limbs (a / b)) ∧ Sl w' ro rk rc (limbs (a % b)) ∧ Below w.heap.size w w'

theorem boxes3 (w : World) (nb : Bool) (ao : Option Addr) (n cap : Nat) (mb : Bool) (bo : Option Addr) (m cb : Nat) :
    ∃ W, W = (((w.alloc (.cells #[.bool nb, .slice ao n cap] 37)).alloc (.cells #[.bool mb, .slice bo m cb] 37)).alloc (.cells #[.bool false, .slice none 0 0] 37)).alloc (.cells #[.bool false, .slice none 0 0] 37) ∧ Below w.heap.size w W ∧
      Box W w.heap.size nb ao n cap ∧ Box W (w.heap.size + 1) mb bo m cb ∧ Box W (w.heap.size + 1 + 1) false none 0 0 ∧ Box W (w.heap.size + 1 + 1 + 1) false none 0 0 ∧ w.heap.size + 4 ≤ W.heap.size := by
  obtain ⟨W, rfl, h1, h2, h3, h4, h5⟩ := boxes2 w nb ao n cap mb bo m cb
  have hn := Box.new (((w.alloc (.cells #[.bool nb, .slice ao n cap] 37)).alloc (.cells #[.bool mb, .slice bo m cb] 37)).alloc (.cells #[.bool false, .slice none 0 0] 37)) false none 0 0
  have hb := (Below.refl (((w.alloc (.cells #[.bool nb, .slice ao n cap] 37)).alloc (.cells #[.bool mb, .slice bo m cb] 37)).alloc (.cells #[.bool false, .slice none 0 0] 37)).heap.size _).alloc (Nat.le_refl _) (.cells #[.bool false, .slice none 0 0] 37)
  refine ⟨_, rfl, h1.trans (hb.mono (by omega)), h2.below hb, h3.below hb, h4.below hb, by simpa using hn, by simp⟩

theorem divmod_plain {nb mb : Bool} {zs ys : List Int} {x y : Int} (hz : Wf zs) (hw : Wf ys) (hx : x = sgd nb zs) (hy : y = sgd mb ys) (h0 : y ≠ 0) (hnr : nb = true → x.natAbs % y.natAbs = 0) :
    x / y = (if (nb != mb) then - (((num zs).toNat / (num ys).toNat : Nat) : Int) else (((num zs).toNat / (num ys).toNat : Nat) : Int)) ∧ x % y = (((num zs).toNat % (num ys).toNat : Nat) : Int) := by
  have a := num_nonneg hz
  have b := num_nonneg hw
  have ex : (num zs).toNat = x.natAbs := by rw [hx, sgd_natAbs hz]
  have ey : (num ys).toNat = y.natAbs := by rw [hy, sgd_natAbs hw]
  rw [ex, ey]
  have hpos : (0 : Int) < num ys := by
    rcases Int.lt_or_eq_of_le b with h | h
    · exact h
    · exfalso; apply h0; rw [hy]; unfold sgd; rw [← h]; cases mb <;> simp
  rw [← ex, ← ey] at hnr ⊢
  clear ex ey h0
  unfold sgd at hx hy
  generalize num zs = p at *
  generalize num ys = q at *
  obtain ⟨p', rfl⟩ := Int.eq_ofNat_of_zero_le a
  obtain ⟨q', rfl⟩ := Int.eq_ofNat_of_zero_le b
  simp only [Int.toNat_natCast] at hnr ⊢
  rw [Int.natCast_ediv, Int.natCast_emod]
  cases nb with
  | false =>
    simp only [Bool.false_eq_true, if_false] at hx
    cases mb with
    | false => simp only [Bool.false_eq_true, if_false] at hy; rw [hx, hy]; simp
    | true => simp only [if_true] at hy; rw [hx, hy, Int.ediv_neg, Int.emod_neg]; simp
  | true =>
    simp only [if_true] at hx
    have hd : (q' : Int) ∣ (p' : Int) := by
      have := Nat.dvd_of_mod_eq_zero (hnr rfl)
      exact Int.natCast_dvd_natCast.2 this
    have h1 : (-(p' : Int)) / q' = - ((p' : Int) / q') := Int.neg_ediv_of_dvd hd
    have h2 : (-(p' : Int)) % q' = 0 := Int.emod_eq_zero_of_dvd (Int.dvd_neg.2 hd)
    have h3 : (p' : Int) % q' = 0 := Int.emod_eq_zero_of_dvd hd
    cases mb with
    | false => simp only [Bool.false_eq_true, if_false] at hy; rw [hx, hy, h1, h2, h3]; simp
    | true => simp only [if_true] at hy; rw [hx, hy, Int.ediv_neg, Int.emod_neg, h1, h2, h3]; simp

/-- two integers are stored -/
theorem two_stored {w : World} {g h B : Nat} {nb mb : Bool} {ao bo : Option Addr} {n m ca cb : Nat} (hg : Box w g nb ao n ca) (hh : Box w h mb bo m cb) (hne : g ≠ h) (hBg : B ≤ g) (hBh : B ≤ h)
    (pb qb : Bool) (po qo : Option Addr) (pk qk pc qc : Nat) (P Q : List Int) (hp : Sl w po pk pc P) (hq : Sl w qo qk qc Q) :
    let W := (((w.setCell ⟨g, 0, none⟩ (.bool pb)).setCell ⟨g, 1, none⟩ (.slice po pk pc)).setCell ⟨h, 0, none⟩ (.bool qb)).setCell ⟨h, 1, none⟩ (.slice qo qk qc)
    Box W g pb po pk pc ∧ Box W h qb qo qk qc ∧ Sl W po pk pc P ∧ Sl W qo qk qc Q ∧ Below B w W := by
  have o1 := only_set2 w g (.bool pb) (.slice po pk pc)
  have g1 := hg.stored pb po pk pc
  have h1 := hh.only o1 (Ne.symm hne)
  have p1 := hp.only_box hg o1
  have q1 := hq.only_box hg o1
  have o2 := only_set2 ((w.setCell ⟨g, 0, none⟩ (.bool pb)).setCell ⟨g, 1, none⟩ (.slice po pk pc)) h (.bool qb) (.slice qo qk qc)
  exact ⟨g1.only o2 hne, h1.stored qb qo qk qc, p1.only_box h1 o2, q1.only_box h1 o2, (o1.below hBg).trans (o2.below hBh)⟩

theorem trim_zs {w : World} {ao : Option Addr} {n cap : Nat} {zs : List Int} (h : Sl w ao n cap zs) (a : Nat) (e : (num zs).toNat = a) :
    ∃ k, k ≤ n ∧ Sl w ao k cap (limbs a) ∧ ∀ W, Sl W ao n cap zs → Calls Tryz.prog 113 #[.slice ao n cap] W fun e w' => e = .returned (.slice ao k cap) ∧ W = w' := by
  subst e; exact trim_at _ _ _ _ _ h

theorem divmod_adj {mb : Bool} {zs ys : List Int} {x y : Int} (hz : Wf zs) (hw : Wf ys) (hx : x = sgd true zs) (hy : y = sgd mb ys) (h0 : y ≠ 0) (hnr : x.natAbs % y.natAbs ≠ 0) :
    x / y = (if (true != mb) then - (((num zs).toNat / (num ys).toNat + 1 : Nat) : Int) else (((num zs).toNat / (num ys).toNat + 1 : Nat) : Int)) ∧ x % y = (((num ys).toNat - (num zs).toNat % (num ys).toNat : Nat) : Int) := by
  have a := num_nonneg hz
  have b := num_nonneg hw
  have ex : (num zs).toNat = x.natAbs := by rw [hx, sgd_natAbs hz]
  have ey : (num ys).toNat = y.natAbs := by rw [hy, sgd_natAbs hw]
  have hpos : (num ys).toNat ≠ 0 := by
    rw [ey]; omega
  rw [← ex, ← ey] at hnr
  clear ex ey h0
  unfold sgd at hx hy
  generalize num zs = p at *
  generalize num ys = q at *
  obtain ⟨p', rfl⟩ := Int.eq_ofNat_of_zero_le a
  obtain ⟨q', rfl⟩ := Int.eq_ofNat_of_zero_le b
  simp only [Int.toNat_natCast] at hnr hpos ⊢
  simp only [if_true] at hx
  have hlt : p' % q' < q' := Nat.mod_lt _ (by omega)
  have hdm := Nat.div_add_mod p' q'
  have key : -(p' : Int) / q' = -((p' / q' + 1 : Nat) : Int) ∧ -(p' : Int) % q' = ((q' - p' % q' : Nat) : Int) := by
    refine (Int.ediv_emod_unique (by omega)).2 ⟨?_, by omega, by omega⟩
    have : (p' : Int) = q' * (p' / q' : Nat) + (p' % q' : Nat) := by rw [← Int.natCast_mul, ← Int.natCast_add, hdm]
    rw [Int.mul_neg, Int.natCast_add, Int.mul_add]
    omega
  cases mb with
  | false => simp only [Bool.false_eq_true, if_false] at hy; rw [hx, hy, key.1, key.2]; simp
  | true => simp only [if_true] at hy; rw [hx, hy, Int.ediv_neg, Int.emod_neg, key.1, key.2]; simp

set_option maxRecDepth 100000 in
set_option maxHeartbeats 4000000 in
theorem divMod_plain (nb mb : Bool) (ao : Option Addr) (n ca : Nat) (bo : Option Addr) (m cb : Nat) (x y : Int) (w : World) (ha : Bg w nb ao n ca x) (hb : Bg w mb bo m cb y) (hy0 : y ≠ 0) (hnl : n ≤ 100000000) (hd : DivSays x.natAbs y.natAbs)
    (hnr : nb = true → x.natAbs % y.natAbs = 0) :
    Calls Tryz.prog 105 #[.agg #[.bool nb, .slice ao n ca], .agg #[.bool mb, .slice bo m cb]] w fun e w' => ∃ qn qo qk qc rn ro rk rc, e = .returned (.tuple #[.agg #[.bool qn, .slice qo qk qc], .agg #[.bool rn, .slice ro rk rc], .int .i64 0]) ∧
      Bn w' qn qo qk qc (x / y) ∧ Bn w' rn ro rk rc (x % y) ∧ Below w.heap.size w w' := by
  obtain ⟨⟨zs, hs, hx⟩, hsm⟩ := ha
  obtain ⟨⟨ys, hu, hy⟩, hum⟩ := hb
  have eax : (num zs).toNat = x.natAbs := by rw [hx, sgd_natAbs hs.wf]
  have eay : (num ys).toNat = y.natAbs := by rw [hy, sgd_natAbs hu.wf]
  have hwz := hs.wf
  have hwy := hu.wf
  have hx' := Lib.hid hx; clear hx
  have hy' := Lib.hid hy; clear hy
  have HY0 := Lib.hid hy0; clear hy0
  have HNR := Lib.hid hnr; clear hnr
  have HD := Lib.hid hd; clear hd
  go_enter Tryz.func105, Tryz.ntmps105
  go_wp2_with fail
  obtain ⟨W, hW, hB, hbx, hby, hrx, hrz, hz⟩ := boxes3 w nb ao n ca mb bo m cb
  rw [← hW]
  clear hW
  have hs0 := hs.below hB
  have hu0 := hu.below hB
  generalize hBe : w.heap.size = B at *
  have HBe := Lib.hid hBe; clear hBe
  have hBelow := Lib.hid hB
  clear hs hu hB
  obtain ⟨k1, hk1, hs1, ht1⟩ := trim_zs hs0 _ eax
  obtain ⟨k2, hk2, hu1, ht2⟩ := trim_zs hu0 _ eay
  have hk20 : ((k2 : Int) == 0) = false := by
    apply beq_eq_false_iff_ne.2
    intro h
    have h0 : (limbs y.natAbs).length = 0 := by rw [hu1.len]; omega
    have := limbs_inj ((List.eq_nil_of_length_eq_zero h0).trans limbs_zero.symm)
    exact HY0.out (by omega)
  have EAX := Lib.hid eax; clear eax
  have EAY := Lib.hid eay; clear eay
  have HT1 := Lib.hid ht1; clear ht1
  have HT2 := Lib.hid ht2; clear ht2
  have k0 := hbx.c0
  have k1' := hbx.c1
  have l0 := hby.c0
  have l1' := hby.c1
  go_quiet ((go_at_call 113; first | (with_reducible exact quiet_left (HT1.out _ (by exact hs0.drewN _))) | (with_reducible exact quiet_left (HT2.out _ (by exact hu0.drewN _)))))
  go_wp2_with fail
  obtain ⟨W2, hW2, hq⟩ := drewN_world W nq
  rw [hW2]
  clear hW2
  refine (HD.out _ _ _ _ _ _ W2 (hs1.below hq) (hu1.below hq) (by omega) (by omega)).mono ?_
  rintro e w2 ⟨qo, qk, qc, ro, rk, rc, rfl, hqs, hrs, hw2⟩
  obtain ⟨b1, z1⟩ := bnext hBelow.out (by omega) hq
  obtain ⟨b2, z2⟩ := bnext b1 z1 hw2
  have x2 := (hbx.below hq).below hw2
  have y2 := (hby.below hq).below hw2
  have p2 := (hrx.below hq).below hw2
  have r2 := (hrz.below hq).below hw2
  have b2' := Lib.hid b2
  have hsz : B + 4 ≤ w2.heap.size := by have := hq.size; have := hw2.size; omega
  clear hs0 hu0 hs1 hu1 hbx hby hrx hrz hBelow hq hw2 b1 z1 b2 z2 k0 k1' l0 l1' HT1 HT2 HD
  have k0 := x2.c0
  have l0 := y2.c0
  have hrk : nb = true → (rk : Int) ≤ 0 := by
    intro h
    have := HNR.out h
    have hl := hrs.len
    rw [this, limbs_zero] at hl
    simp at hl; omega
  have HQR := Lib.hid (divmod_plain (nb := nb) (mb := mb) hwz hwy hx'.out hy'.out HY0.out HNR.out)
  rw [EAX.out, EAY.out] at HQR
  cases nb
  case true =>
    have hrk0 := hrk rfl
    clear hrk
    go_wp2_with fail
    refine (signed_any _ _ _ _ _ _ hqs).mono ?_
    rintro e w3 ⟨so, sc, rfl, hs3, hw3⟩
    have hr3 := hrs.below hw3
    have p3 := p2.below hw3
    have r3 := r2.below hw3
    obtain ⟨b3, z3⟩ := bnext b2'.out (by omega) hw3
    have hsz3 := hw3.size
    clear k0 l0 x2 y2 hqs hrs hw3
    go_wp2_with fail
    refine (signed_any _ _ _ _ _ _ hr3).mono ?_
    rintro e w4 ⟨so', sc', rfl, hs4, hw4⟩
    have hq4 := hs3.below hw4
    have p4 := p3.below hw4
    have r4 := r3.below hw4
    obtain ⟨b4, z4⟩ := bnext b3 z3 hw4
    have hsz4 := hw4.size
    clear hw4 hs3 hr3 p3 r3 b3 z3 p2 r2
    have q0 := p4.c0
    have q1 := p4.c1
    have q2 := p4.f 0
    have q3 := p4.f 1
    have t0 := r4.c0
    have t1 := r4.c1
    have t2 := r4.f 0
    have t3 := r4.f 1
    obtain ⟨g5, h5, p5, s5, b5⟩ := two_stored p4 r4 (by omega) (B := B) (by omega) (by omega) (!mb && decide (0 < qk)) false so so' qk rk sc sc' _ _ hq4 hs4
    have u0 := g5.c0
    have u1 := g5.c1
    have u2 := h5.c0
    have u3 := h5.c1
    go_wp2
    refine bodyPost_ret (v := .tuple #[.agg #[.bool (!mb && decide (0 < qk)), .slice so qk sc], .agg #[.bool false, .slice so' rk sc'], .int .i64 0]) (by simp [results, Tryz.results105, go_sem, u0, u1, u2, u3]) rfl ⟨_, so, qk, sc, _, so', rk, sc', rfl, ?_, ?_, ?_⟩
    · exact bn_of p5 rfl (by rw [HQR.out.1]; cases mb <;> rfl)
    · exact bn_of (nb := false) s5 rfl (by rw [HQR.out.2]; rfl)
    · rw [HBe.out]; exact b4.trans b5
  case false =>
    clear hrk
    go_wp2_with fail
    refine (signed_any _ _ _ _ _ _ hqs).mono ?_
    rintro e w3 ⟨so, sc, rfl, hs3, hw3⟩
    have hr3 := hrs.below hw3
    have p3 := p2.below hw3
    have r3 := r2.below hw3
    obtain ⟨b3, z3⟩ := bnext b2'.out (by omega) hw3
    have hsz3 := hw3.size
    clear k0 l0 x2 y2 hqs hrs hw3
    go_wp2_with fail
    refine (signed_any _ _ _ _ _ _ hr3).mono ?_
    rintro e w4 ⟨so', sc', rfl, hs4, hw4⟩
    have hq4 := hs3.below hw4
    have p4 := p3.below hw4
    have r4 := r3.below hw4
    obtain ⟨b4, z4⟩ := bnext b3 z3 hw4
    have hsz4 := hw4.size
    clear hw4 hs3 hr3 p3 r3 b3 z3 p2 r2
    have q0 := p4.c0
    have q1 := p4.c1
    have q2 := p4.f 0
    have q3 := p4.f 1
    have t0 := r4.c0
    have t1 := r4.c1
    have t2 := r4.f 0
    have t3 := r4.f 1
    obtain ⟨g5, h5, p5, s5, b5⟩ := two_stored p4 r4 (by omega) (B := B) (by omega) (by omega) (mb && decide (0 < qk)) false so so' qk rk sc sc' _ _ hq4 hs4
    have u0 := g5.c0
    have u1 := g5.c1
    have u2 := h5.c0
    have u3 := h5.c1
    go_wp2
    refine bodyPost_ret (v := .tuple #[.agg #[.bool (mb && decide (0 < qk)), .slice so qk sc], .agg #[.bool false, .slice so' rk sc'], .int .i64 0]) (by simp [results, Tryz.results105, go_sem, u0, u1, u2, u3]) rfl ⟨_, so, qk, sc, _, so', rk, sc', rfl, ?_, ?_, ?_⟩
    · exact bn_of p5 rfl (by rw [HQR.out.1]; cases mb <;> rfl)
    · exact bn_of (nb := false) s5 rfl (by rw [HQR.out.2]; rfl)
    · rw [HBe.out]; exact b4.trans b5
set_option maxRecDepth 100000 in
set_option maxHeartbeats 4000000 in
theorem divMod_adj (mb : Bool) (ao : Option Addr) (n ca : Nat) (bo : Option Addr) (m cb : Nat) (x y : Int) (w : World) (ha : Bg w true ao n ca x) (hb : Bg w mb bo m cb y) (hy0 : y ≠ 0) (hnl : n ≤ 100000000) (hd : DivSays x.natAbs y.natAbs)
    (hnr : x.natAbs % y.natAbs ≠ 0) :
    Calls Tryz.prog 105 #[.agg #[.bool true, .slice ao n ca], .agg #[.bool mb, .slice bo m cb]] w fun e w' => ∃ qn qo qk qc rn ro rk rc, e = .returned (.tuple #[.agg #[.bool qn, .slice qo qk qc], .agg #[.bool rn, .slice ro rk rc], .int .i64 0]) ∧
      Bn w' qn qo qk qc (x / y) ∧ Bn w' rn ro rk rc (x % y) ∧ Below w.heap.size w w' := by
  obtain ⟨⟨zs, hs, hx⟩, hsm⟩ := ha
  obtain ⟨⟨ys, hu, hy⟩, hum⟩ := hb
  have eax : (num zs).toNat = x.natAbs := by rw [hx, sgd_natAbs hs.wf]
  have eay : (num ys).toNat = y.natAbs := by rw [hy, sgd_natAbs hu.wf]
  have hwz := hs.wf
  have hwy := hu.wf
  have hx' := Lib.hid hx; clear hx
  have hy' := Lib.hid hy; clear hy
  have HY0 := Lib.hid hy0; clear hy0
  have HNR := Lib.hid hnr; clear hnr
  have HD := Lib.hid hd; clear hd
  go_enter Tryz.func105, Tryz.ntmps105
  go_wp2_with fail
  obtain ⟨W, hW, hB, hbx, hby, hrx, hrz, hz⟩ := boxes3 w true ao n ca mb bo m cb
  rw [← hW]
  clear hW
  have hs0 := hs.below hB
  have hu0 := hu.below hB
  generalize hBe : w.heap.size = B at *
  have HBe := Lib.hid hBe; clear hBe
  have hBelow := Lib.hid hB
  clear hs hu hB
  obtain ⟨k1, hk1, hs1, ht1⟩ := trim_zs hs0 _ eax
  obtain ⟨k2, hk2, hu1, ht2⟩ := trim_zs hu0 _ eay
  have hk20 : ((k2 : Int) == 0) = false := by
    apply beq_eq_false_iff_ne.2
    intro h
    have h0 : (limbs y.natAbs).length = 0 := by rw [hu1.len]; omega
    have := limbs_inj ((List.eq_nil_of_length_eq_zero h0).trans limbs_zero.symm)
    exact HY0.out (by omega)
  have EAX := Lib.hid eax; clear eax
  have EAY := Lib.hid eay; clear eay
  have HT1 := Lib.hid ht1; clear ht1
  have HT2 := Lib.hid ht2; clear ht2
  have k0 := hbx.c0
  have k1' := hbx.c1
  have l0 := hby.c0
  have l1' := hby.c1
  go_quiet ((go_at_call 113; first | (with_reducible exact quiet_left (HT1.out _ (by exact hs0.drewN _))) | (with_reducible exact quiet_left (HT2.out _ (by exact hu0.drewN _)))))
  go_wp2_with fail
  obtain ⟨W2, hW2, hq⟩ := drewN_world W nq
  rw [hW2]
  clear hW2
  refine (HD.out _ _ _ _ _ _ W2 (hs1.below hq) (hu1.below hq) (by omega) (by omega)).mono ?_
  rintro e w2 ⟨qo, qk, qc, ro, rk, rc, rfl, hqs, hrs, hw2⟩
  obtain ⟨b1, z1⟩ := bnext hBelow.out (by omega) hq
  obtain ⟨b2, z2⟩ := bnext b1 z1 hw2
  have x2 := (hbx.below hq).below hw2
  have y2 := (hby.below hq).below hw2
  have p2 := (hrx.below hq).below hw2
  have r2 := (hrz.below hq).below hw2
  have b2' := Lib.hid b2
  have hu2q := (hu1.below hq).below hw2
  have hqk : qk ≤ n := by
    have h1 := limbs_mono (Nat.div_le_self x.natAbs y.natAbs)
    rw [hs1.len, hqs.len] at h1
    omega
  have hsz : B + 4 ≤ w2.heap.size := by have := hq.size; have := hw2.size; omega
  clear hs0 hu0 hs1 hu1 hbx hby hrx hrz hBelow hq hw2 b1 z1 b2 z2 k0 k1' l0 l1' HT1 HT2 HD
  have k0 := x2.c0
  have l0 := y2.c0
  have hrk0 : 0 < rk := by
    have hl := hrs.len
    apply Nat.pos_of_ne_zero
    intro h
    subst h
    have := limbs_inj ((List.eq_nil_of_length_eq_zero hl).trans limbs_zero.symm)
    exact HNR.out this
  have HQR := Lib.hid (divmod_adj (mb := mb) hwz hwy hx'.out hy'.out HY0.out HNR.out)
  rw [EAX.out, EAY.out] at HQR
  have hq2 := hu2q
  go_wp2_with fail
  have hone : Blk (w2.alloc (.cells #[.int .u32 1] 64)) w2.heap.size [1] := heap_alloc_new w2 _
  have hbw := (Below.refl w2.heap.size w2).alloc (Nat.le_refl _) (.cells #[.int .u32 1] 64)
  have hl1 : limbs 1 = [1] := by rw [limbs_pos (by omega), limbs_zero]; rfl
  have hsone := hone.sl (n := 1) (cap := 1) (Wf.cons (by omega) Wf.nil) rfl (by omega) (Nat.le_refl _)
  rw [← hl1] at hsone
  refine (plus_any _ _ _ _ _ _ _ _ _ (hqs.below hbw) hsone (by omega) (by omega)).mono ?_
  rintro e w5 ⟨qo', qk', qc', rfl, hqs5, hw5⟩
  have hw5' := hbw.trans (hw5.mono (by simp))
  have hrs5 := hrs.below hw5'
  have hu5 := hq2.below hw5'
  have p5' := p2.below hw5'
  have r5' := r2.below hw5'
  have x5 := x2.below hw5'
  have y5 := y2.below hw5'
  obtain ⟨b5', z5⟩ := bnext b2'.out (by omega) hw5'
  have hsz5 := hw5'.size
  clear hw5 hw5' hbw hone hsone hl1 hqs hrs hq2 hu2q p2 r2 x2 y2 k0 l0 b2'
  have k0 := x5.c0
  have l0 := y5.c0
  go_wp2_with fail
  refine (minus_any _ _ _ _ _ _ _ _ _ hu5 hrs5 (Nat.le_of_lt (Nat.mod_lt _ (by have := HY0.out; omega)))).mono ?_
  rintro e w2 ⟨ro', rk', rc', rfl, hrs, hw6⟩
  have hqs := hqs5.below hw6
  have p2 := p5'.below hw6
  have r2 := r5'.below hw6
  have x2 := x5.below hw6
  have y2 := y5.below hw6
  obtain ⟨b6, z6⟩ := bnext b5' z5 hw6
  have b2' := Lib.hid b6
  have hsz6 := hw6.size
  clear hw6 hqs5 hrs5 hu5 p5' r5' x5 y5 b5' z5 b6 z6 k0 l0
  have k0 := x2.c0
  have l0 := y2.c0
  go_wp2_with fail
  refine (signed_any _ _ _ _ _ _ hqs).mono ?_
  rintro e w3 ⟨so, sc, rfl, hs3, hw3⟩
  have hr3 := hrs.below hw3
  have p3 := p2.below hw3
  have r3 := r2.below hw3
  obtain ⟨b3, z3⟩ := bnext b2'.out (by omega) hw3
  have hsz3 := hw3.size
  clear k0 l0 x2 y2 hqs hrs hw3
  go_wp2_with fail
  refine (signed_any _ _ _ _ _ _ hr3).mono ?_
  rintro e w4 ⟨so', sc', rfl, hs4, hw4⟩
  have hq4 := hs3.below hw4
  have p4 := p3.below hw4
  have r4 := r3.below hw4
  obtain ⟨b4, z4⟩ := bnext b3 z3 hw4
  have hsz4 := hw4.size
  clear hw4 hs3 hr3 p3 r3 b3 z3 p2 r2
  have q0 := p4.c0
  have q1 := p4.c1
  have q2 := p4.f 0
  have q3 := p4.f 1
  have t0 := r4.c0
  have t1 := r4.c1
  have t2 := r4.f 0
  have t3 := r4.f 1
  obtain ⟨g5, h5, p5, s5, b5⟩ := two_stored p4 r4 (by omega) (B := B) (by omega) (by omega) (!mb && decide (0 < qk')) false so so' qk' rk' sc sc' _ _ hq4 hs4
  have u0 := g5.c0
  have u1 := g5.c1
  have u2 := h5.c0
  have u3 := h5.c1
  go_wp2
  refine bodyPost_ret (v := .tuple #[.agg #[.bool (!mb && decide (0 < qk')), .slice so qk' sc], .agg #[.bool false, .slice so' rk' sc'], .int .i64 0]) (by simp [results, Tryz.results105, go_sem, u0, u1, u2, u3]) rfl ⟨_, so, qk', sc, _, so', rk', sc', rfl, ?_, ?_, ?_⟩
  · exact bn_of p5 rfl (by rw [HQR.out.1]; cases mb <;> rfl)
  · exact bn_of (nb := false) s5 rfl (by rw [HQR.out.2]; rfl)
  · rw [HBe.out]; exact b4.trans b5

/-- quotient and remainder, the remainder not negative -/
theorem divMod_any (nb mb : Bool) (ao : Option Addr) (n ca : Nat) (bo : Option Addr) (m cb : Nat) (x y : Int) (w : World) (ha : Bg w nb ao n ca x) (hb : Bg w mb bo m cb y) (hy0 : y ≠ 0) (hnl : n ≤ 100000000) (hd : DivSays x.natAbs y.natAbs) :
    Calls Tryz.prog 105 #[.agg #[.bool nb, .slice ao n ca], .agg #[.bool mb, .slice bo m cb]] w fun e w' => ∃ qn qo qk qc rn ro rk rc, e = .returned (.tuple #[.agg #[.bool qn, .slice qo qk qc], .agg #[.bool rn, .slice ro rk rc], .int .i64 0]) ∧
      Bn w' qn qo qk qc (x / y) ∧ Bn w' rn ro rk rc (x % y) ∧ Below w.heap.size w w' := by
  by_cases h : nb = true → x.natAbs % y.natAbs = 0
  · exact divMod_plain nb mb ao n ca bo m cb x y w ha hb hy0 hnl hd h
  · have hn : nb = true := by
      cases nb with
      | true => rfl
      | false => exact absurd (fun e => by cases e) h
    subst hn
    exact divMod_adj mb ao n ca bo m cb x y w ha hb hy0 hnl hd (fun e => h (fun _ => e))
end Go.Proofs.YtjohpdobnedilaaGreatDoor

/- Plain facts on the estimate of a quotient from two limbs of the divisor (Knuth's algorithm D). No program stands here. -/
namespace Go.Proofs.YtjohpdobnedilaaGreatDoor

theorem lt_or_ge_int (a b : Int) : a < b ∨ b ≤ a := by omega

/-- the dividend u and the divisor v by their leading limbs: B is the weight of what is below -/
structure Lead (u v top w2 f s B : Int) : Prop where
  bpos : 0 < B
  u0 : (top * 4294967296 + w2) * B ≤ u
  u1 : u < (top * 4294967296 + w2 + 1) * B
  v0 : (f * 4294967296 + s) * B ≤ v
  v1 : v < (f * 4294967296 + s + 1) * B
  t0 : 0 ≤ top
  w0 : 0 ≤ w2
  w1 : w2 < 4294967296
  s0 : 0 ≤ s
  s1 : s < 4294967296
  f0 : 2147483648 ≤ f
  f1 : f < 4294967296
  uv : u < v * 4294967296

/-- q is not too small, and r is what it leaves of the first limbs -/
structure Est (u v top f q r : Int) : Prop where
  qr : q * f + r = top
  r0 : 0 ≤ r
  q0 : 0 ≤ q
  ge : u / v ≤ q

theorem Lead.vpos {u v top w2 f s B : Int} (h : Lead u v top w2 f s B) : 0 < v := by
  have h1 : 0 < (f * 4294967296 + s) * B := Int.mul_pos (by have := h.f0; have := h.s0; omega) h.bpos
  have := h.v0
  omega

theorem Lead.unonneg {u v top w2 f s B : Int} (h : Lead u v top w2 f s B) : 0 ≤ u := by
  have h1 : 0 ≤ (top * 4294967296 + w2) * B := Int.mul_nonneg (by have := h.t0; have := h.w0; omega) (Int.le_of_lt h.bpos)
  have := h.u0
  omega

theorem Lead.qlt {u v top w2 f s B : Int} (h : Lead u v top w2 f s B) : u / v < 4294967296 :=
  Int.ediv_lt_of_lt_mul h.vpos (by rw [Int.mul_comm]; exact h.uv)

theorem Lead.start {u v top w2 f s B : Int} (h : Lead u v top w2 f s B) : Est u v top f (top / f) (top % f) := by
  have hf : 0 < f := by have := h.f0; omega
  refine ⟨by rw [Int.mul_comm]; exact Int.mul_ediv_add_emod top f, Int.emod_nonneg _ (by omega), Int.ediv_nonneg h.t0 (by omega), ?_⟩
  rw [Int.le_ediv_iff_mul_le hf]
  have hQ : u / v * v ≤ u := Int.ediv_mul_le u (by have := h.vpos; omega)
  have hQ0 : 0 ≤ u / v := Int.ediv_nonneg h.unonneg (Int.le_of_lt h.vpos)
  generalize u / v = Q at *
  rcases lt_or_ge_int top (Q * f) with hlt | hle
  · exfalso
    -- Q v ≥ Q f R B ≥ (top + 1) R B > u
    have a1 : (top + 1) * (4294967296 * B) ≤ Q * f * (4294967296 * B) := Int.mul_le_mul_of_nonneg_right (by omega) (by have := h.bpos; omega)
    have a2 : Q * ((f * 4294967296 + s) * B) ≤ Q * v := Int.mul_le_mul_of_nonneg_left h.v0 hQ0
    have a3 : Q * ((f * 4294967296 + s) * B) = Q * f * (4294967296 * B) + Q * (s * B) := by
      rw [Int.add_mul, Int.mul_add, Int.mul_assoc f, ← Int.mul_assoc Q f]
    have a4 : 0 ≤ Q * (s * B) := Int.mul_nonneg hQ0 (Int.mul_nonneg h.s0 (Int.le_of_lt h.bpos))
    have a5 : (top * 4294967296 + w2 + 1) * B ≤ (top + 1) * (4294967296 * B) := by
      rw [← Int.mul_assoc]
      exact Int.mul_le_mul_of_nonneg_right (by have := h.w1; omega) (Int.le_of_lt h.bpos)
    have := h.u1
    omega
  · exact hle

theorem Lead.lower {u v top w2 f s B q r : Int} (h : Lead u v top w2 f s B) (e : Est u v top f q r) (hc : 4294967295 < q ∨ r * 4294967296 + w2 < q * s) : u / v ≤ q - 1 := by
  rcases hc with hc | hc
  · have := h.qlt; omega
  · have hge := e.ge
    have hQ : u / v * v ≤ u := Int.ediv_mul_le u (by have := h.vpos; omega)
    rcases lt_or_ge_int (u / v) q with h1 | h1
    · omega
    · exfalso
      have hq : u / v = q := by omega
      rw [hq] at hQ
      have a2 : q * ((f * 4294967296 + s) * B) ≤ q * v := Int.mul_le_mul_of_nonneg_left h.v0 e.q0
      have a3 : q * ((f * 4294967296 + s) * B) = (q * f * 4294967296 + q * s) * B := by
        rw [← Int.mul_assoc, Int.mul_add, ← Int.mul_assoc q f]
      have a4 : (top * 4294967296 + w2 + 1) * B ≤ (q * f * 4294967296 + q * s) * B := by
        refine Int.mul_le_mul_of_nonneg_right ?_ (Int.le_of_lt h.bpos)
        have := e.qr
        omega
      have := h.u1
      omega

theorem Lead.step {u v top w2 f s B q r : Int} (h : Lead u v top w2 f s B) (e : Est u v top f q r) (hc : 4294967295 < q ∨ r * 4294967296 + w2 < q * s) : Est u v top f (q - 1) (r + f) := by
  have h1 := h.lower e hc
  have hQ0 : 0 ≤ u / v := Int.ediv_nonneg h.unonneg (Int.le_of_lt h.vpos)
  refine ⟨?_, by have := e.r0; have := h.f0; omega, by omega, h1⟩
  have := e.qr
  rw [Int.sub_mul]
  omega

theorem Lead.out {u v top w2 f s B q r : Int} (h : Lead u v top w2 f s B) (e : Est u v top f q r) (hc : 4294967295 < r ∨ (q ≤ 4294967295 ∧ q * s ≤ r * 4294967296 + w2)) : q ≤ 4294967295 ∧ q ≤ u / v + 1 := by
  have hv := h.vpos
  -- the first limbs of u are less than those of v, times the base
  have htop : top ≤ f * 4294967296 + 4294967295 := by
    rcases lt_or_ge_int (f * 4294967296 + 4294967295) top with h1 | h1
    · exfalso
      have a1 : (f * 4294967296 + s + 1) * B * 4294967296 ≤ (top * 4294967296 + w2) * B := by
        rw [Int.mul_assoc, Int.mul_comm B, ← Int.mul_assoc]
        exact Int.mul_le_mul_of_nonneg_right (by have := h.s1; have := h.w0; omega) (Int.le_of_lt h.bpos)
      have a2 : v * 4294967296 ≤ (f * 4294967296 + s + 1) * B * 4294967296 := Int.mul_le_mul_of_nonneg_right (Int.le_of_lt h.v1) (by omega)
      have := h.u0
      have := h.uv
      omega
    · exact h1
  have hqr := e.qr
  have hr0 := e.r0
  have hq0 := e.q0
  have hf0 := h.f0
  have hs0 := h.s0
  have hs1 := h.s1
  have hw0 := h.w0
  have hq : q ≤ 4294967295 := by
    rcases hc with hc | hc
    · rcases lt_or_ge_int 4294967295 q with h1 | h1
      · exfalso
        have := Int.mul_le_mul_of_nonneg_right (show 4294967296 ≤ q by omega) (show 0 ≤ f by omega)
        omega
      · exact h1
    · exact hc.1
  refine ⟨hq, ?_⟩
  -- (q - 1) v ≤ u
  suffices hs : (q - 1) * v ≤ u by
    have := (Int.le_ediv_iff_mul_le hv).2 hs
    omega
  rcases lt_or_ge_int q 1 with h1 | h1
  · have : (q - 1) * v ≤ 0 := by
      have := Int.mul_le_mul_of_nonneg_right (show q - 1 ≤ 0 by omega) (Int.le_of_lt hv)
      omega
    have := h.unonneg
    omega
  · have hB := h.bpos
    rcases hc with hc | ⟨_, hc⟩
    · have b1 : (q - 1) * v ≤ (q - 1) * ((f * 4294967296 + s + 1) * B) := Int.mul_le_mul_of_nonneg_left (Int.le_of_lt h.v1) (by omega)
      have b2 : (q - 1) * ((f * 4294967296 + s + 1) * B) = ((q - 1) * (f * 4294967296 + s + 1)) * B := by rw [Int.mul_assoc]
      have b3 : (q - 1) * (f * 4294967296 + s + 1) ≤ top * 4294967296 + w2 := by
        have c1 : (q - 1) * (f * 4294967296 + s + 1) = q * f * 4294967296 - f * 4294967296 + (q - 1) * (s + 1) := by
          rw [Int.add_assoc, Int.mul_add, ← Int.mul_assoc, Int.sub_mul, Int.one_mul, Int.sub_mul]
        have c2 : (q - 1) * (s + 1) ≤ 4294967294 * (s + 1) := Int.mul_le_mul_of_nonneg_right (by omega) (by omega)
        omega
      have b4 := Int.mul_le_mul_of_nonneg_right b3 (Int.le_of_lt hB)
      have := h.u0
      omega
    · have b1 : q * v ≤ q * ((f * 4294967296 + s + 1) * B) := Int.mul_le_mul_of_nonneg_left (Int.le_of_lt h.v1) (by omega)
      have b2 : q * ((f * 4294967296 + s + 1) * B) = (q * f * 4294967296 + q * s) * B + q * B := by
        rw [← Int.mul_assoc, Int.mul_add, Int.mul_add, Int.mul_one, ← Int.mul_assoc q f, Int.add_mul (_ + _) q B]
      have b3 : (q * f * 4294967296 + q * s) * B ≤ (top * 4294967296 + w2) * B := by
        refine Int.mul_le_mul_of_nonneg_right ?_ (Int.le_of_lt hB)
        omega
      have b4 : q * B ≤ (f * 4294967296 + s) * B := Int.mul_le_mul_of_nonneg_right (by omega) (Int.le_of_lt hB)
      have := h.u0
      have := h.v0
      have e1 : (q - 1) * v = q * v - v := by rw [Int.sub_mul, Int.one_mul]
      omega

end Go.Proofs.YtjohpdobnedilaaGreatDoor

/- What integer.estimate does: the quotient of reduce, or one more. -/
namespace Go.Proofs.YtjohpdobnedilaaGreatDoor
open Go.RowKit

theorem mul_bounds' {x y : Int} (x0 : 0 ≤ x) (x1 : x < 4294967296) (y0 : 0 ≤ y) (y1 : y < 4294967296) : 0 ≤ x * y ∧ x * y ≤ 18446744065119617025 := by
  refine ⟨Int.mul_nonneg x0 y0, ?_⟩
  have h1 : x * y ≤ 4294967295 * y := Int.mul_le_mul_of_nonneg_right (by omega) y0
  omega

set_option maxRecDepth 100000 in
set_option maxHeartbeats 4000000 in
theorem estimate_any (u v t1 t0 w2 f s B : Int) (g i m cap bd od cd : Nat) (w : World) (h : Lead u v (t1 * 4294967296 + t0) w2 f s B) (hm : m ≤ 1000000000)
    (a1 : 0 ≤ t1) (a2 : t1 < 4294967296) (b1 : 0 ≤ t0) (b2 : t0 < 4294967296)
    (c1 : w.cell? ⟨g, i + (m + 2), none⟩ = some (.int .u32 t1)) (c2 : w.cell? ⟨g, i + (m + 1), none⟩ = some (.int .u32 t0)) (c3 : w.cell? ⟨g, i + m, none⟩ = some (.int .u32 w2))
    (d1 : w.cell? ⟨bd, od + (m + 1), none⟩ = some (.int .u32 f)) (d2 : w.cell? ⟨bd, od + m, none⟩ = some (.int .u32 s)) :
    Calls Tryz.prog 222 #[.slice (some ⟨g, i, none⟩) (m + 2 + 1) cap, .slice (some ⟨bd, od, none⟩) (m + 2) cd] w fun e w' => ∃ q, e = .returned (.int .u32 q) ∧ (u / v ≤ q ∧ q ≤ u / v + 1 ∧ 0 ≤ q ∧ q ≤ 4294967295) ∧ ∃ n, w' = w.drewN n := by
  have hor := or_hl a1 a2 b1 b2
  have f0 := h.f0
  have f1 := h.f1
  have s0 := h.s0
  have s1 := h.s1
  have w0 := h.w0
  have w1 := h.w1
  have m0 : (0 : Int) ≤ (m : Int) := by omega
  have e1 : ((m + 2 : Nat) : Int) = (m : Int) + 2 := by omega
  have H := Lib.hid h; clear h
  go_enter Tryz.func222, Tryz.ntmps222
  go_wp2
  go_quiet (fail)
  go_wp2
  go_quiet (fail)
  have hst := H.out.start
  have ht0 : 0 ≤ t1 * 4294967296 + t0 := by omega
  have ht1 : t1 * 4294967296 + t0 < 18446744073709551616 := by omega
  clear hor c1 c2 d1 d2 b1 b2 a1 a2
  generalize t1 * 4294967296 + t0 = top at *
  have q0 : 0 ≤ top / f := hst.q0
  have q1 : top / f ≤ 8589934592 := by
    have h1 : top / f ≤ top / 2147483648 := by
      rw [Int.le_ediv_iff_mul_le (by omega)]
      have h2 : top / f * 2147483648 ≤ top / f * f := Int.mul_le_mul_of_nonneg_left f0 q0
      have h3 := hst.qr
      have h4 := hst.r0
      omega
    omega
  have r0 : 0 ≤ top % f := hst.r0
  have r1 : top % f < f := Int.emod_lt_of_pos _ (by omega)
  have HST := Lib.hid hst; clear hst
  go_wp2
  go_quiet (fail)
  rw [World.drewN_drewN, World.drewN_drewN]
  go_wp2
  go_loop [9, 10] (fun a b => ∃ q r : Int, a = .int .u64 q ∧ b = .int .u64 r ∧ q ≤ 8589934592 ∧ r ≤ 8589934592 ∧ Est u v top f q r) (fun _ b => (8589934592 - intOf b).toNat)
  case atStart => exact ⟨_, _, rfl, rfl, q1, by omega, HST.out⟩
  case round =>
    obtain ⟨q, r, rfl, rfl, hq1, hr1, hE⟩ := hrel
    have hq0 := hE.q0
    have hr0 := hE.r0
    have HE := Lib.hid hE; clear hE
    clear q0 q1 r0 r1
    by_cases hr : r ≤ 4294967295
    · have hor := or_hl hr0 (by omega) w0 w1
      by_cases hq : 4294967295 < q
      · have hpos : 0 < q := by omega
        go_wp2
        go_roundw
        case rel => exact ⟨q - 1, r + f, rfl, rfl, by omega, by omega, H.out.step HE.out (.inl hq)⟩
        case measure => simp [intOf] <;> omega
      · obtain ⟨p0, p1⟩ := mul_bounds' hq0 (by omega) s0 s1
        by_cases hqs : r * 4294967296 + w2 < q * s
        · have hst := H.out.step HE.out (.inr hqs)
          have hpos : 0 < q := by have := hst.q0; omega
          have HS := Lib.hid hst; clear hst
          go_wp2
          go_roundw
          case rel => exact ⟨q - 1, r + f, rfl, rfl, by omega, by omega, HS.out⟩
          case measure => simp [intOf] <;> omega
        · have ho := H.out.out HE.out (.inr ⟨by omega, by omega⟩)
          go_wp2
          go_ret
          exact ⟨q, rfl, ⟨HE.out.ge, ho.2, hq0, by omega⟩, _, rfl⟩
    · have ho := H.out.out HE.out (.inl (by omega))
      obtain ⟨o1, o2⟩ := ho
      go_wp2
      go_ret
      exact ⟨q, rfl, ⟨HE.out.ge, o2, hq0, o1⟩, _, rfl⟩
end Go.Proofs.YtjohpdobnedilaaGreatDoor

/- What integer.subProduct, addWrapping and reduce do to a window of a block. -/
namespace Go.Proofs.YtjohpdobnedilaaGreatDoor
open Go.RowKit

/-- the limbs V stand in block g behind P and before T -/
def Mid (w : World) (g : Nat) (P V T : List Int) : Prop := Blk w g (P ++ (V ++ T))

theorem getD_mid (P V T : List Int) (j : Nat) (h : j < V.length) : (P ++ (V ++ T)).getD (P.length + j) 0 = V.getD j 0 := by
  simp [List.getD, List.getElem?_append_right, List.getElem?_append_left, h]
theorem set_mid (P V T : List Int) (j : Nat) (x : Int) (h : j < V.length) : (P ++ (V ++ T)).set (P.length + j) x = P ++ (V.set j x ++ T) := by
  rw [List.set_append_right _ _ (by omega), Nat.add_sub_cancel_left, List.set_append_left _ _ h]

theorem Mid.cell {w : World} {g i : Nat} {P V T : List Int} (h : Mid w g P V T) (hi : P.length = i) (j : Nat) (hj : j < V.length) : w.cell? ⟨g, i + j, none⟩ = some (.int .u32 (V.getD j 0)) := by
  subst hi
  have := Blk.cell h (P.length + j) (by simp; omega)
  rwa [getD_mid P V T j hj] at this
theorem Mid.frozen {w : World} {g : Nat} {P V T : List Int} (h : Mid w g P V T) (o : Nat) : w.frozen? ⟨g, o, none⟩ = false := Blk.frozen h o
theorem Mid.set {w : World} {g i : Nat} {P V T : List Int} (h : Mid w g P V T) (hi : P.length = i) (j : Nat) (x : Int) (hj : j < V.length) : Mid (w.setCell ⟨g, i + j, none⟩ (.int .u32 x)) g P (V.set j x) T := by
  subst hi
  have := Blk.set h (P.length + j) x
  rw [set_mid P V T j x hj] at this
  exact this

/-- one step of the subtraction of a product: c is what is carried and borrowed -/
theorem subp_word (x y q c b : Int) (x0 : 0 ≤ x) (x1 : x < 4294967296) (p0 : 0 ≤ y * q) (p1 : y * q ≤ 18446744065119617025) (c0 : 0 ≤ c) (c1 : c ≤ 4294967295) (b0 : 0 ≤ b) (b1 : b ≤ 1) :
    0 ≤ (c + y * q) / 4294967296 ∧ (c + y * q) / 4294967296 ≤ 4294967295 ∧
    0 ≤ IntKind.u64.wrap (IntKind.u64.wrap (x - (c + y * q) % 4294967296) - b) / 9223372036854775808 ∧ IntKind.u64.wrap (IntKind.u64.wrap (x - (c + y * q) % 4294967296) - b) / 9223372036854775808 ≤ 1 ∧
    IntKind.u64.wrap (IntKind.u64.wrap (x - (c + y * q) % 4294967296) - b) % 4294967296 =
      x - y * q - (c + b) + 4294967296 * ((c + y * q) / 4294967296 + IntKind.u64.wrap (IntKind.u64.wrap (x - (c + y * q) % 4294967296) - b) / 9223372036854775808) := by
  rw [IntKind.wrap_u64, IntKind.wrap_u64]
  generalize y * q = p at *
  omega

theorem and_mask {a : Int} (h0 : 0 ≤ a) (h1 : a < 18446744073709551616) : bits BinOp.and IntKind.u64 a 4294967295 = a % 4294967296 := by
  obtain ⟨n, rfl⟩ := Int.eq_ofNat_of_zero_le h0
  have e := bits_and_u64_nat n 4294967295 (by omega) (by omega)
  have e2 : n &&& 4294967295 = n % 4294967296 := by
    have := Nat.and_two_pow_sub_one_eq_mod n 32
    simpa using this
  rw [e2] at e
  rw [show ((4294967295 : Nat) : Int) = 4294967295 from rfl] at e
  rw [e]
  omega

set_option maxRecDepth 100000 in
set_option maxHeartbeats 4000000 in
theorem subProduct_any (g i n cap cd : Nat) (P V T ds : List Int) (bo : Option Addr) (q : Int) (w : World) (hP : P.length = i) (hV : V.length = n + 1) (hwv : Wf V) (hB : Mid w g P V T) (hn : n ≤ 1000000000)
    (hdl : ds.length = n) (hwd : Wf ds) (hst : Stay g w bo ds) (q0 : 0 ≤ q) (q1 : q < 4294967296) :
    Calls Tryz.prog 223 #[.slice (some ⟨g, i, none⟩) (n + 1) cap, .slice bo n cd, .int .u32 q] w fun e w' => ∃ (b : Int) (V' : List Int), e = .returned (.bool (decide (0 < b))) ∧ 0 ≤ b ∧ b ≤ 1 ∧
      V'.length = n + 1 ∧ Wf V' ∧ num V' = num V - q * num ds + 4294967296 ^ (n + 1) * b ∧ Mid w' g P V' T ∧ Only g w w' := by
  have HP := Lib.hid hP; clear hP
  have HV := Lib.hid hV; clear hV
  have HD := Lib.hid hdl; clear hdl
  go_enter Tryz.func223, Tryz.ntmps223
  go_wp2
  go_loopw [7, 8, 9, 10, 11, 15] (fun c b _ _ _ k wr => ∃ (j : Nat) (cc bb : Int) (Vj : List Int), j ≤ n ∧ k = .int .i64 j ∧ c = .int .u64 cc ∧ b = .int .u64 bb ∧ 0 ≤ cc ∧ cc ≤ 4294967295 ∧ 0 ≤ bb ∧ bb ≤ 1 ∧ Taken V Vj j (cc + bb) (q * num (ds.take j)) ∧ Mid wr g P Vj T ∧ Only g w wr)
    (fun _ _ _ _ _ k _ => n - (intOf k).toNat)
  case atStart => exact ⟨0, 0, 0, V, Nat.zero_le _, rfl, rfl, rfl, by omega, by omega, by omega, by omega, by simpa [num] using Taken.start hwv, hB, Only.refl g w⟩
  case round =>
    obtain ⟨j, cc, bb, Vj, hj, rfl, rfl, rfl, c0, c1, b0, b1, hA, hbk, ho⟩ := hrel
    have hvl : Vj.length = n + 1 := by rw [hA.1, HV.out]
    by_cases hlt : j < n
    · obtain ⟨bd, od, rfl, hcb⟩ := hst _ ho (by rw [HD.out]; omega)
      have e1 := hcb j (by rw [HD.out]; omega)
      clear hcb
      have hyr := hwd.getD j
      obtain ⟨y, hy⟩ : ∃ y, ds.getD j 0 = y := ⟨_, rfl⟩
      rw [hy] at e1 hyr
      have HY := Lib.hid hy; clear hy
      obtain ⟨y0, y1⟩ := hyr
      have e2 := hbk.cell HP.out j (by omega)
      rw [getD_of_drop hA.2.2.1] at e2
      have e3 := hbk.frozen (i + j)
      have hxr := hwv.getD j
      obtain ⟨x, hx⟩ : ∃ x, V.getD j 0 = x := ⟨_, rfl⟩
      rw [hx] at e2 hxr
      have HX := Lib.hid hx; clear hx
      obtain ⟨x0, x1⟩ := hxr
      obtain ⟨p0, p1⟩ := mul_bounds' y0 y1 q0 q1
      have hmask := and_mask (a := cc + y * q) (by omega) (by omega)
      have HVL := Lib.hid hvl; clear hvl
      have HA := Lib.hid hA; clear hA
      go_wp2
      go_roundw
      case rel =>
        obtain ⟨s1, s2, s3, s4, s5⟩ := subp_word x y q cc bb x0 x1 p0 p1 c0 c1 b0 b1
        have st := HA.out.step (by rw [HV.out]; omega) (y * q) _ _ ⟨Int.emod_nonneg _ (by omega), Int.emod_lt_of_pos _ (by omega)⟩ (s5.trans (by rw [HX.out]))
        have en : q * num (ds.take j) + 4294967296 ^ j * (y * q) = q * num (ds.take (j + 1)) := by
          rw [num_take_succ ds j (by rw [HD.out]; exact hlt), HY.out, Int.mul_add, Int.mul_comm y q, Int.mul_left_comm]
        rw [en] at st
        exact ⟨j + 1, _, _, _, by omega, by go_num, rfl, rfl, s1, s2, s3, s4, st, hbk.set HP.out j _ (by rw [HVL.out]; omega), ho.setCell _ _⟩
      case measure => simp [intOf] <;> omega
    · obtain rfl : j = n := by omega
      have e2 := hbk.cell HP.out j (by omega)
      rw [getD_of_drop hA.2.2.1] at e2
      have e3 := hbk.frozen (i + j)
      have hxr := hwv.getD j
      obtain ⟨x, hx⟩ : ∃ x, V.getD j 0 = x := ⟨_, rfl⟩
      rw [hx] at e2 hxr
      have HX := Lib.hid hx; clear hx
      obtain ⟨x0, x1⟩ := hxr
      have HVL := Lib.hid hvl; clear hvl
      have HA := Lib.hid hA; clear hA
      go_wp2
      go_ret
      obtain ⟨s1, s2, s3⟩ := sub_word x cc bb x0 x1 c0 (by omega) b0 b1
      have st := HA.out.step (by rw [HV.out]; omega) 0 _ (IntKind.u64.wrap (IntKind.u64.wrap (x - cc) - bb) / 9223372036854775808) ⟨Int.emod_nonneg _ (by omega), Int.emod_lt_of_pos _ (by omega)⟩ (s3.trans (by rw [HX.out]; omega))
      rw [Int.mul_zero, Int.add_zero, List.take_of_length_le (by rw [HD.out]; exact Nat.le_refl _)] at st
      have hl := st.1
      have hnum := st.2.2.2
      rw [HV.out] at hl
      rw [List.take_of_length_le (by omega), List.take_of_length_le (by rw [HV.out]; exact Nat.le_refl _)] at hnum
      exact ⟨_, _, rfl, s1, s2, hl, st.2.1, hnum, hbk.set HP.out j _ (by rw [HVL.out]; omega), ho.setCell _ _⟩

set_option maxRecDepth 100000 in
set_option maxHeartbeats 4000000 in
theorem addWrapping_any (g i n cap cd : Nat) (P V T ds : List Int) (bo : Option Addr) (w : World) (hP : P.length = i) (hV : V.length = n + 1) (hwv : Wf V) (hB : Mid w g P V T) (hn : n ≤ 1000000000)
    (hdl : ds.length = n) (hwd : Wf ds) (hst : Stay g w bo ds) :
    Calls Tryz.prog 224 #[.slice (some ⟨g, i, none⟩) (n + 1) cap, .slice bo n cd] w fun e w' => ∃ (c : Int) (V' : List Int), e = .returned (.tuple #[]) ∧ 0 ≤ c ∧
      V'.length = n + 1 ∧ Wf V' ∧ num V' + 4294967296 ^ (n + 1) * c = num V + num ds ∧ Mid w' g P V' T ∧ Only g w w' := by
  have HP := Lib.hid hP; clear hP
  have HV := Lib.hid hV; clear hV
  have HD := Lib.hid hdl; clear hdl
  go_enter Tryz.func224, Tryz.ntmps224
  go_wp2
  go_loopw [4, 5, 6, 9] (fun c _ _ k wr => ∃ (j : Nat) (cc : Int) (Vj : List Int), j ≤ n ∧ k = .int .i64 j ∧ c = .int .u64 cc ∧ 0 ≤ cc ∧ cc ≤ 1 ∧ Added V Vj j cc (num (ds.take j)) ∧ Mid wr g P Vj T ∧ Only g w wr)
    (fun _ _ _ k _ => n - (intOf k).toNat)
  case atStart => exact ⟨0, 0, V, Nat.zero_le _, rfl, rfl, by omega, by omega, Added.start hwv, hB, Only.refl g w⟩
  case round =>
    obtain ⟨j, cc, Vj, hj, rfl, rfl, c0, c1, hA, hbk, ho⟩ := hrel
    have hvl : Vj.length = n + 1 := by rw [hA.1, HV.out]
    by_cases hlt : j < n
    · obtain ⟨bd, od, rfl, hcb⟩ := hst _ ho (by rw [HD.out]; omega)
      have e1 := hcb j (by rw [HD.out]; omega)
      clear hcb
      have hyr := hwd.getD j
      obtain ⟨y, hy⟩ : ∃ y, ds.getD j 0 = y := ⟨_, rfl⟩
      rw [hy] at e1 hyr
      have HY := Lib.hid hy; clear hy
      obtain ⟨y0, y1⟩ := hyr
      have e2 := hbk.cell HP.out j (by omega)
      rw [getD_of_drop hA.2.2.1] at e2
      have e3 := hbk.frozen (i + j)
      have hxr := hwv.getD j
      obtain ⟨x, hx⟩ : ∃ x, V.getD j 0 = x := ⟨_, rfl⟩
      rw [hx] at e2 hxr
      have HX := Lib.hid hx; clear hx
      obtain ⟨x0, x1⟩ := hxr
      have HVL := Lib.hid hvl; clear hvl
      have HA := Lib.hid hA; clear hA
      go_wp2
      go_roundw
      case rel =>
        have st := HA.out.step (by rw [HV.out]; omega) y (cc + (x + y)) (by rw [HX.out])
        rw [← HY.out, ← num_take_succ ds j (by rw [HD.out]; exact hlt), HY.out] at st
        exact ⟨j + 1, _, _, by omega, by go_num, rfl, by omega, by omega, st, hbk.set HP.out j _ (by rw [HVL.out]; omega), ho.setCell _ _⟩
      case measure => simp [intOf] <;> omega
    · obtain rfl : j = n := by omega
      have e2 := hbk.cell HP.out j (by omega)
      rw [getD_of_drop hA.2.2.1] at e2
      have e3 := hbk.frozen (i + j)
      have hxr := hwv.getD j
      obtain ⟨x, hx⟩ : ∃ x, V.getD j 0 = x := ⟨_, rfl⟩
      rw [hx] at e2 hxr
      have HX := Lib.hid hx; clear hx
      obtain ⟨x0, x1⟩ := hxr
      have HVL := Lib.hid hvl; clear hvl
      have HA := Lib.hid hA; clear hA
      go_wp2
      go_end0
      have st := HA.out.step (by rw [HV.out]; omega) 0 (cc + (x + 0)) (by rw [HX.out])
      rw [show cc + (x + 0) = x + cc by omega, Int.mul_zero, Int.add_zero, List.take_of_length_le (by rw [HD.out]; exact Nat.le_refl _)] at st
      have hl := st.1
      have hnum := st.2.2.2
      rw [HV.out] at hl
      rw [List.take_of_length_le (by omega), List.take_of_length_le (by rw [HV.out]; exact Nat.le_refl _)] at hnum
      exact ⟨(x + cc) / 4294967296, _, rfl, by omega, hl, st.2.1, hnum, hbk.set HP.out j _ (by rw [HVL.out]; omega), ho.setCell _ _⟩

theorem num_drop' (zs : List Int) (j : Nat) (h : j < zs.length) : num (zs.drop j) = zs.getD j 0 + 4294967296 * num (zs.drop (j + 1)) := by
  rw [List.drop_eq_getElem_cons h, ← getD_at h]; rfl

/-- the leading limbs of a window and of a divisor -/
theorem lead_of {V ds : List Int} {m : Nat} (hV : V.length = m + 2 + 1) (hd : ds.length = m + 2) (hwv : Wf V) (hwd : Wf ds) (htop : 2147483648 ≤ ds.getD (m + 1) 0) (huv : num V < num ds * 4294967296) :
    Lead (num V) (num ds) (V.getD (m + 2) 0 * 4294967296 + V.getD (m + 1) 0) (V.getD m 0) (ds.getD (m + 1) 0) (ds.getD m 0) (4294967296 ^ m) := by
  have e1 : num V = num (V.take m) + 4294967296 ^ m * ((V.getD (m + 2) 0 * 4294967296 + V.getD (m + 1) 0) * 4294967296 + V.getD m 0) := by
    have h := num_append (V.take m) (V.drop m)
    rw [List.take_append_drop, List.length_take, Nat.min_eq_left (by omega)] at h
    rw [h, num_drop' V m (by omega), num_drop' V (m + 1) (by omega), num_drop' V (m + 1 + 1) (by omega), List.drop_eq_nil_of_le (by omega : V.length ≤ m + 1 + 1 + 1)]
    simp only [num, show m + 1 + 1 = m + 2 from rfl]
    congr 2
    omega
  have e2 : num ds = num (ds.take m) + 4294967296 ^ m * (ds.getD (m + 1) 0 * 4294967296 + ds.getD m 0) := by
    have h := num_append (ds.take m) (ds.drop m)
    rw [List.take_append_drop, List.length_take, Nat.min_eq_left (by omega)] at h
    rw [h, num_drop' ds m (by omega), num_drop' ds (m + 1) (by omega), List.drop_eq_nil_of_le (by omega : ds.length ≤ m + 1 + 1)]
    simp only [num]
    congr 2
    omega
  have t1 := num_lt (hwv.take m)
  have t0 := num_nonneg (hwv.take m)
  have r1 := num_lt (hwd.take m)
  have r0 := num_nonneg (hwd.take m)
  rw [List.length_take, Nat.min_eq_left (by omega)] at t1 r1
  have g2 := hwv.getD (m + 2)
  have g1 := hwv.getD (m + 1)
  have g0 := hwv.getD m
  have f1 := hwd.getD (m + 1)
  have f0 := hwd.getD m
  refine ⟨pow_pos' m, ?_, ?_, ?_, ?_, by omega, g0.1, g0.2, f0.1, f0.2, htop, f1.2, huv⟩
  · rw [e1, Int.mul_comm]; omega
  · rw [e1, Int.add_mul _ 1, Int.one_mul, Int.mul_comm _ (4294967296 ^ m)]; omega
  · rw [e2, Int.mul_comm]; omega
  · rw [e2, Int.add_mul _ 1, Int.one_mul, Int.mul_comm _ (4294967296 ^ m)]; omega

theorem wrap_case {u v Q r q b N X : Int} (hdm : v * Q + r = u) (r0 : 0 ≤ r) (r1 : r < v) (q1 : Q ≤ q) (q2 : q ≤ Q + 1) (b0 : 0 ≤ b) (b1 : b ≤ 1) (hN : N = u - q * v + X * b) (n0 : 0 ≤ N) (n1 : N < X) :
    (b = 0 ∧ q = Q ∧ N = r) ∨ (b = 1 ∧ q = Q + 1 ∧ N = r - v + X) := by
  have hqc : q = Q ∨ q = Q + 1 := by omega
  have hbc : b = 0 ∨ b = 1 := by omega
  rcases hqc with rfl | rfl
  · rcases hbc with rfl | rfl
    · left
      rw [Int.mul_comm v q] at hdm
      refine ⟨rfl, rfl, ?_⟩
      rw [Int.mul_zero] at hN
      omega
    · exfalso
      rw [Int.mul_comm v q] at hdm
      rw [Int.mul_one] at hN
      omega
  · rw [Int.add_mul, Int.one_mul, Int.mul_comm Q v] at hN
    rcases hbc with rfl | rfl
    · exfalso
      rw [Int.mul_zero] at hN
      omega
    · right
      rw [Int.mul_one] at hN
      exact ⟨rfl, rfl, by omega⟩

theorem wrap_back {r c N X : Int} (c0 : 0 ≤ c) (r0 : 0 ≤ r) (r1 : r < X) (n0 : 0 ≤ N) (n1 : N < X) (h : N + X * c = r + X) : N = r := by
  have hc : c = 0 ∨ c = 1 ∨ 2 ≤ c := by omega
  rcases hc with rfl | rfl | hc
  · rw [Int.mul_zero] at h; omega
  · rw [Int.mul_one] at h; omega
  · have := Int.mul_le_mul_of_nonneg_left hc (show 0 ≤ X by omega)
    omega

set_option maxRecDepth 100000 in
set_option maxHeartbeats 4000000 in
theorem reduce_any (g i m cap cd : Nat) (P V T ds : List Int) (bo : Option Addr) (w : World) (hP : P.length = i) (hV : V.length = m + 2 + 1) (hwv : Wf V) (hB : Mid w g P V T) (hm : m ≤ 100000000)
    (hwd : Wf ds) (hdl : ds.length = m + 2) (hst : Stay g w bo ds) (htop : 2147483648 ≤ ds.getD (m + 1) 0) (huv : num V < num ds * 4294967296) :
    Calls Tryz.prog 198 #[.slice (some ⟨g, i, none⟩) (m + 2 + 1) cap, .slice bo (m + 2) cd] w fun e w' => ∃ (V' : List Int), e = .returned (.int .u32 (num V / num ds)) ∧
      V'.length = m + 2 + 1 ∧ Wf V' ∧ num V' = num V % num ds ∧ Mid w' g P V' T ∧ Only g w w' := by
  have hL := lead_of hV hdl hwv hwd htop huv
  obtain ⟨bd, od, rfl, hcb⟩ := hst w (Only.refl g w) (by omega)
  have c1 := hB.cell hP (m + 2) (by omega)
  have c2 := hB.cell hP (m + 1) (by omega)
  have c3 := hB.cell hP m (by omega)
  have d1 := hcb (m + 1) (by omega)
  have d2 := hcb m (by omega)
  have g2 := hwv.getD (m + 2)
  have g1 := hwv.getD (m + 1)
  have hE := estimate_any _ _ _ _ _ _ _ _ g i m cap bd od cd w hL (by omega) g2.1 g2.2 g1.1 g1.2 c1 c2 c3 d1 d2
  have HE := Lib.hid hE
  clear hE c1 c2 c3 d1 d2 hcb g1 g2
  have hvp := hL.vpos
  have hup := hL.unonneg
  have hQ0 : 0 ≤ num V / num ds := Int.ediv_nonneg hup (Int.le_of_lt hvp)
  have hdm := Int.mul_ediv_add_emod (num V) (num ds)
  have hr0 : 0 ≤ num V % num ds := Int.emod_nonneg _ (by omega)
  have hr1 : num V % num ds < num ds := Int.emod_lt_of_pos _ hvp
  have hbig : num ds < 4294967296 ^ (m + 2 + 1) := by
    have h1 := num_lt hwd
    rw [hdl] at h1
    have h2 := pow_pos' (m + 2)
    rw [Int.pow_succ _ (m + 2)]
    omega
  go_enter Tryz.func198, Tryz.ntmps198
  go_wp2_with fail
  refine HE.out.mono ?_
  rintro e w1 ⟨q, rfl, ⟨q1, q2, q3, q4⟩, nn, rfl⟩
  have hB1 : Mid (w.drewN nn) g P V T := hB
  have hst1 : Stay g (w.drewN nn) (some ⟨bd, od, none⟩) ds := fun w' h => hst w' ((Only.refl g w).drewN nn |>.trans h)
  go_wp2_with fail
  refine (subProduct_any g i (m + 2) cap cd P V T ds _ q _ hP hV hwv hB1 (by omega) hdl hwd hst1 q3 (by omega)).mono ?_
  rintro e w2 ⟨b, V', rfl, b0, b1, hl', hwf', hnum, hB2, ho2⟩
  have HN := Lib.hid hnum; clear hnum
  have HDM := Lib.hid hdm; clear hdm
  have hlt' := num_lt hwf'
  have hge' := num_nonneg hwf'
  rw [hl'] at hlt'
  have hcase := wrap_case (X := 4294967296 ^ (m + 2 + 1)) HDM.out hr0 hr1 q1 q2 b0 b1 HN.out hge' hlt'
  rcases hcase with ⟨rfl, hq, hres⟩ | ⟨rfl, hq, hres⟩
  · have HQ := Lib.hid hq; clear hq
    have HR := Lib.hid hres; clear hres
    go_wp2
    go_ret
    refine ⟨V', by rw [← HQ.out]; rfl, hl', hwf', HR.out, hB2, ?_⟩
    exact (Only.refl g w).drewN nn |>.trans ho2
  · have HQ := Lib.hid hq; clear hq
    have HR := Lib.hid hres; clear hres
    have hq1 : 1 ≤ q := by rw [HQ.out]; omega
    have hst2 : Stay g w2 (some ⟨bd, od, none⟩) ds := fun w' h => hst1 w' (ho2.trans h)
    go_wp2_with fail
    refine (addWrapping_any g i (m + 2) cap cd P V' T ds _ w2 hP hl' hwf' hB2 (by omega) hdl hwd hst2).mono ?_
    rintro e w3 ⟨c, V2, rfl, cc0, hl2, hwf2, hn2, hB3, ho3⟩
    have HN2 := Lib.hid hn2; clear hn2
    go_wp2
    go_ret
    have hlt2 := num_lt hwf2
    have hge2 := num_nonneg hwf2
    rw [hl2] at hlt2
    refine ⟨V2, ?_, hl2, hwf2, ?_, hB3, ?_⟩
    · rw [show num V / num ds = q - 1 by rw [HQ.out]; omega]; rfl
    · have h2 := HN2.out
      rw [HR.out] at h2
      exact wrap_back cc0 hr0 (by omega) hge2 hlt2 (by omega)
    · exact ((Only.refl g w).drewN nn |>.trans ho2).trans ho3
end Go.Proofs.YtjohpdobnedilaaGreatDoor

/- What integer.shiftUp does: the limbs of the number times a power of two. -/
namespace Go.Proofs.YtjohpdobnedilaaGreatDoor
open Go.RowKit

theorem bits_or_u32_nat (a b : Nat) (ha : a < 4294967296) (hb : b < 4294967296) : bits BinOp.or IntKind.u32 (a : Int) (b : Int) = ((a ||| b : Nat) : Int) := by
  have hx : a ||| b < 2 ^ 32 := Nat.or_lt_two_pow (by omega) (by omega)
  have h1 : (BitVec.ofInt 32 (a : Int)).toNat = a := by
    rw [BitVec.ofInt_natCast, BitVec.toNat_ofNat]; exact Nat.mod_eq_of_lt (by omega)
  have h2 : (BitVec.ofInt 32 (b : Int)).toNat = b := by
    rw [BitVec.ofInt_natCast, BitVec.toNat_ofNat]; exact Nat.mod_eq_of_lt (by omega)
  show IntKind.u32.wrap ((BitVec.ofInt 32 (a : Int) ||| BitVec.ofInt 32 (b : Int)).toNat : Int) = _
  rw [BitVec.toNat_or, h1, h2]
  simp only [IntKind.wrap, IntKind.bits, IntKind.signed, Bool.false_and, Bool.false_eq_true, if_false]
  omega

theorem or_low {z q : Int} {k : Nat} (hk : k < 32) (z0 : 0 ≤ z) (z1 : z < 2 ^ k) (q0 : 0 ≤ q) (q1 : q * 2 ^ k < 4294967296) : bits BinOp.or IntKind.u32 z (q * 2 ^ k) = z + q * 2 ^ k := by
  obtain ⟨a, rfl⟩ := Int.eq_ofNat_of_zero_le z0
  obtain ⟨b, rfl⟩ := Int.eq_ofNat_of_zero_le q0
  have h1 : a < 2 ^ k := by
    have : ((a : Nat) : Int) < ((2 ^ k : Nat) : Int) := by rw [Int.natCast_pow]; exact z1
    exact Int.ofNat_lt.1 this
  have h2 : b * 2 ^ k < 4294967296 := by
    have : ((b * 2 ^ k : Nat) : Int) < ((4294967296 : Nat) : Int) := by rw [Int.natCast_mul, Int.natCast_pow]; exact q1
    exact Int.ofNat_lt.1 this
  have h3 : 2 ^ k < 2 ^ 32 := Nat.pow_lt_pow_right (by omega) hk
  have e := bits_or_u32_nat a (b * 2 ^ k) (by omega) h2
  have e2 : a ||| b * 2 ^ k = a + b * 2 ^ k := by
    have := Nat.two_pow_add_eq_or_of_lt h1 b
    rw [Nat.or_comm, Nat.mul_comm b, ← this]; omega
  rw [e2, Int.natCast_add, Int.natCast_mul, Int.natCast_pow] at e
  exact e

/-- one limb shifted: what stays, and what goes over -/
theorem limb_shift {y z : Int} {k : Nat} (hk : k < 32) (y0 : 0 ≤ y) (y1 : y < 4294967296) (z0 : 0 ≤ z) (z1 : z < 2 ^ k) :
    0 ≤ bits BinOp.or IntKind.u32 z (IntKind.u64.wrap (y * 2 ^ k) % 4294967296) ∧ bits BinOp.or IntKind.u32 z (IntKind.u64.wrap (y * 2 ^ k) % 4294967296) < 4294967296 ∧
    0 ≤ IntKind.u64.wrap (y * 2 ^ k) / 4294967296 % 4294967296 ∧ IntKind.u64.wrap (y * 2 ^ k) / 4294967296 % 4294967296 < 2 ^ k ∧ IntKind.u64.wrap (y * 2 ^ k) / 4294967296 % 4294967296 < 4294967296 ∧
    bits BinOp.or IntKind.u32 z (IntKind.u64.wrap (y * 2 ^ k) % 4294967296) + 4294967296 * (IntKind.u64.wrap (y * 2 ^ k) / 4294967296 % 4294967296) = z + y * 2 ^ k := by
  have hp : (0 : Int) < 2 ^ k := by exact Int.pow_pos (by omega)
  have hp2 : (2 : Int) ^ k * 2 ^ (32 - k) = 4294967296 := by rw [← Int.pow_add, show k + (32 - k) = 32 by omega]; rfl
  have hpr : (0 : Int) < 2 ^ (32 - k) := Int.pow_pos (by omega)
  have hw0 : 0 ≤ y * 2 ^ k := Int.mul_nonneg y0 (by omega)
  have hw1 : y * 2 ^ k < 4294967296 * 2 ^ k := Int.mul_lt_mul_of_pos_right y1 hp
  have hp32 : (2 : Int) ^ k ≤ 4294967296 := by
    rw [← hp2]
    have := Int.mul_le_mul_of_nonneg_left (show (1 : Int) ≤ 2 ^ (32 - k) by omega) (Int.le_of_lt hp)
    rwa [Int.mul_one] at this
  have hwr : IntKind.u64.wrap (y * 2 ^ k) = y * 2 ^ k := by
    rw [IntKind.wrap_u64]; exact Int.emod_eq_of_lt hw0 (by omega)
  rw [hwr]
  have hc1 : y * 2 ^ k / 4294967296 < 2 ^ k := Int.ediv_lt_of_lt_mul (by omega) (by rw [Int.mul_comm (2 ^ k) 4294967296]; exact hw1)
  have hc0 : 0 ≤ y * 2 ^ k / 4294967296 := Int.ediv_nonneg hw0 (by omega)
  have hcm : y * 2 ^ k / 4294967296 % 4294967296 = y * 2 ^ k / 4294967296 := Int.emod_eq_of_lt hc0 (by omega)
  rw [hcm]
  -- the low part is a multiple of 2^k
  have hq : y * 2 ^ k % 4294967296 = (y % 2 ^ (32 - k)) * 2 ^ k := by
    rw [← hp2, Int.mul_comm y, Int.mul_emod_mul_of_pos _ _ hp, Int.mul_comm]
  have hl1 : y * 2 ^ k % 4294967296 < 4294967296 := Int.emod_lt_of_pos _ (by omega)
  have hor := or_low (q := y % 2 ^ (32 - k)) hk z0 z1 (Int.emod_nonneg _ (by omega)) (by rw [← hq]; exact hl1)
  rw [hq, hor, ← hq]
  have hl0 : 0 ≤ y * 2 ^ k % 4294967296 := Int.emod_nonneg _ (by omega)
  -- z + low < R : both are below, and low ≤ R - 2^k
  have hle : y * 2 ^ k % 4294967296 + 2 ^ k ≤ 4294967296 := by
    rw [hq]
    have h1 : y % 2 ^ (32 - k) + 1 ≤ 2 ^ (32 - k) := Int.emod_lt_of_pos _ hpr
    have h2 := Int.mul_le_mul_of_nonneg_right h1 (Int.le_of_lt hp)
    rw [Int.add_mul, Int.one_mul, Int.mul_comm (2 ^ (32 - k)) (2 ^ k), hp2] at h2
    exact h2
  refine ⟨by omega, by omega, hc0, hc1, by omega, by omega⟩

/-- j limbs are shifted -/
def Up (zs Lj : List Int) (n s k j : Nat) : Prop :=
  Lj.length = s + n + 1 ∧ Wf Lj ∧ num Lj = num (zs.take j) * 4294967296 ^ s * 2 ^ k ∧ Lj.getD (s + j) 0 < 2 ^ k ∧ ∀ i, s + j < i → Lj.getD i 0 = 0

theorem getD_rep (n i : Nat) : (List.replicate n (0 : Int)).getD i 0 = 0 := by
  by_cases h : i < n <;> simp [List.getD, h]

theorem Up.start (zs : List Int) (n s k : Nat) : Up zs (List.replicate (s + n + 1) 0) n s k 0 :=
  ⟨by simp, Wf.replicate _, by simp [num_replicate, num], by rw [getD_rep]; exact Int.pow_pos (by omega), fun i _ => getD_rep _ i⟩

theorem Up.step {zs Lj : List Int} {n s k j : Nat} (h : Up zs Lj n s k j) (hj : j < n) (hz : zs.length = n) (a c : Int) (a0 : 0 ≤ a) (a1 : a < 4294967296) (c0 : 0 ≤ c) (c1 : c < 2 ^ k) (c2 : c < 4294967296)
    (he : a + 4294967296 * c = Lj.getD (s + j) 0 + zs.getD j 0 * 2 ^ k) : Up zs ((Lj.set (s + j) a).set (s + j + 1) c) n s k (j + 1) := by
  obtain ⟨h1, h2, h3, h4, h5⟩ := h
  refine ⟨by simp [h1], (h2.set _ ⟨a0, a1⟩).set _ ⟨c0, c2⟩, ?_, ?_, ?_⟩
  · rw [num_set _ _ _ (by simp; omega), num_set _ _ _ (by omega), h3, getD_set _ _ _ _ (by omega), if_neg (by omega), h5 (s + j + 1) (by omega), num_take_succ zs j (by omega)]
    have e1 : (4294967296 : Int) ^ (s + j + 1) * (c - 0) = 4294967296 ^ (s + j) * (4294967296 * c) := by
      rw [Int.pow_succ, Int.sub_zero, Int.mul_assoc]
    have e2 : (4294967296 : Int) ^ (s + j) * (a - Lj.getD (s + j) 0) + 4294967296 ^ (s + j) * (4294967296 * c) = 4294967296 ^ (s + j) * (zs.getD j 0 * 2 ^ k) := by
      rw [← Int.mul_add]
      congr 1
      omega
    have e3 : (4294967296 : Int) ^ (s + j) * (zs.getD j 0 * 2 ^ k) = 4294967296 ^ j * zs.getD j 0 * 4294967296 ^ s * 2 ^ k := by
      rw [Int.pow_add]
      simp only [Int.mul_assoc, Int.mul_comm, Int.mul_left_comm]
    rw [e1, Int.add_assoc, e2, e3, Int.add_mul, Int.add_mul]
  · rw [show s + (j + 1) = s + j + 1 by omega, getD_set _ _ _ _ (by simp; omega), if_pos rfl]
    exact c1
  · intro i hi
    rw [getD_set _ _ _ _ (by simp; omega), if_neg (by omega), getD_set _ _ _ _ (by omega), if_neg (by omega)]
    exact h5 i (by omega)

set_option maxRecDepth 100000 in
set_option maxHeartbeats 1000000 in
theorem shiftUp_raw (zs : List Int) (s k : Nat) (ao : Option Addr) (n ca : Nat) (w : World) (ha : Sl w ao n ca zs) (hk : k < 32) (hn : n ≤ 1000000000) (hs : s ≤ 1000000000) :
    Calls Tryz.prog 115 #[.slice ao n ca, .int .i64 ((s * 32 + k : Nat) : Int)] w fun e w' => ∃ ao' l cap, e = .returned (.slice ao' l cap) ∧ Sl w' ao' l cap (limbs (num zs * 4294967296 ^ s * 2 ^ k).toNat) ∧ Below w.heap.size w w' := by
  have hd : ((s * 32 + k : Nat) : Int) / 32 = (s : Int) := by omega
  have hr : ((s * 32 + k : Nat) : Int) % 32 = (k : Int) := by omega
  obtain ⟨x, hx⟩ : ∃ x : Int, ((s * 32 + k : Nat) : Int) = x := ⟨_, rfl⟩
  rw [hx] at hd hr ⊢
  have hx0 : 0 ≤ x := by omega
  have hx1 : x ≤ 100000000000 := by omega
  have HX := Lib.hid hx; clear hx
  go_enter Tryz.func115, Tryz.ntmps115
  go_wp2_with (refine wpList_make_u32 _ rfl _ _ rfl _ (s + n + 1) rfl rfl (by omega) (by omega) ?_)
  intro w1 hb1 hw1
  have hsa := ha.cells.stay_below hw1 (Nat.le_refl _)
  generalize hg : w.heap.size = g at *
  have HG := Lib.hid hg; clear hg
  have hal := ha.len
  have HAL := Lib.hid hal; clear hal
  have hwz := ha.wf
  go_wp2
  go_loopw [8, 9, 10, 23] (fun _ _ _ i wr => ∃ (j : Nat) (Lj : List Int), j ≤ n ∧ i = .int .i64 j ∧ Up zs Lj n s k j ∧ Blk wr g Lj ∧ Only g w1 wr)
    (fun _ _ _ i _ => n - (intOf i).toNat)
  case atStart => exact ⟨0, _, Nat.zero_le _, rfl, Up.start zs n s k, hb1, Only.refl g w1⟩
  case round =>
    obtain ⟨j, Lj, hj, rfl, hU, hbk, ho⟩ := hrel
    have hl := hU.1
    have HU := Lib.hid hU; clear hU
    by_cases hlt : j < n
    · obtain ⟨bb, ob, rfl, hcb⟩ := hsa _ ho (by rw [HAL.out]; omega)
      have c1 := hcb j (by rw [HAL.out]; omega)
      clear hcb
      have hyr := hwz.getD j
      obtain ⟨y, hy⟩ : ∃ y, zs.getD j 0 = y := ⟨_, rfl⟩
      rw [hy] at c1 hyr
      have HY := Lib.hid hy; clear hy
      obtain ⟨y0, y1⟩ := hyr
      have c2 := hbk.cell (s + j) (by omega)
      have c3 := hbk.frozen (s + j)
      have c4 := hbk.cell (s + j + 1) (by omega)
      have c5 := hbk.frozen (s + j + 1)
      obtain ⟨z, hz⟩ : ∃ z, Lj.getD (s + j) 0 = z := ⟨_, rfl⟩
      obtain ⟨z', hz'⟩ : ∃ z, Lj.getD (s + j + 1) 0 = z := ⟨_, rfl⟩
      rw [hz] at c2
      rw [hz'] at c4
      have HZ := Lib.hid hz; clear hz
      have HZ' := Lib.hid hz'; clear hz'
      have HL := Lib.hid hl; clear hl
      go_wp2
      go_roundw
      case rel =>
        have z0 := (HU.out.2.1.getD (s + j)).1
        have z1 := HU.out.2.2.2.1
        rw [HZ.out] at z0 z1
        obtain ⟨q0, q1, q2, q3, q4, q5⟩ := limb_shift hk y0 y1 z0 z1
        have st := HU.out.step (by omega) HAL.out _ _ q0 q1 q2 q3 q4 (by rw [HZ.out, HY.out]; exact q5)
        exact ⟨j + 1, _, by omega, by go_num, st, (hbk.set _ _).set _ _, (ho.setCell _ _).setCell _ _⟩
      case measure => simp [intOf] <;> omega
    · obtain rfl : j = n := by omega
      have HL := Lib.hid hl; clear hl
      go_wp2_with fail
      refine (trim_sl _ _ _ Lj wr (hbk.sl HU.out.2.1 HL.out (by omega) (Nat.le_refl _))).mono ?_
      rintro e w4 ⟨i, rfl, hs4, rfl⟩
      go_wp2
      go_ret
      refine ⟨_, i, _, rfl, ?_, by rw [HG.out]; exact hw1.trans (ho.below (Nat.le_refl _))⟩
      rw [HU.out.2.2.1, List.take_of_length_le (by rw [HAL.out]; exact Nat.le_refl _)] at hs4
      exact hs4
end Go.Proofs.YtjohpdobnedilaaGreatDoor

/- What integer.shiftDown does: the limbs of the number divided by a power of two. -/
namespace Go.Proofs.YtjohpdobnedilaaGreatDoor
open Go.RowKit

/-- the limbs below j are shifted down, the others not yet -/
def Down (ds Lj : List Int) (m k j : Nat) : Prop :=
  Lj.length = m ∧ Wf Lj ∧ Lj.drop j = ds.drop j ∧ ds.length = m ∧ ∀ i, i < j → Lj.getD i 0 = ds.getD i 0 / 2 ^ k + ds.getD (i + 1) 0 % 2 ^ k * 2 ^ (32 - k)

theorem Down.start {ds : List Int} {m k : Nat} (h : ds.length = m) (hw : Wf ds) : Down ds ds m k 0 := ⟨h, hw, rfl, h, fun i hi => absurd hi (by omega)⟩

theorem pow_split {k : Nat} (hk : k < 32) : (2 : Int) ^ k * 2 ^ (32 - k) = 4294967296 := by rw [← Int.pow_add, show k + (32 - k) = 32 by omega]; rfl

/-- one limb shifted down, with the bits of the next one -/
theorem limb_down {y z : Int} {k : Nat} (hk : k < 32) (y0 : 0 ≤ y) (y1 : y < 4294967296) :
    bits BinOp.or IntKind.u32 (y / 2 ^ k) (z * 2 ^ (32 - k) % 4294967296) = y / 2 ^ k + z % 2 ^ k * 2 ^ (32 - k) ∧ 0 ≤ y / 2 ^ k + z % 2 ^ k * 2 ^ (32 - k) ∧ y / 2 ^ k + z % 2 ^ k * 2 ^ (32 - k) < 4294967296 := by
  have hp : (0 : Int) < 2 ^ k := Int.pow_pos (by omega)
  have hpr : (0 : Int) < 2 ^ (32 - k) := Int.pow_pos (by omega)
  have hp2 := pow_split hk
  have a0 : 0 ≤ y / 2 ^ k := Int.ediv_nonneg y0 (by omega)
  have a1 : y / 2 ^ k < 2 ^ (32 - k) := Int.ediv_lt_of_lt_mul hp (by rw [Int.mul_comm, hp2]; exact y1)
  have hq : z * 2 ^ (32 - k) % 4294967296 = z % 2 ^ k * 2 ^ (32 - k) := by
    rw [← hp2, Int.mul_comm z, Int.mul_comm (2 ^ k), Int.mul_emod_mul_of_pos _ _ hpr, Int.mul_comm]
  have q0 : 0 ≤ z % 2 ^ k := Int.emod_nonneg _ (by omega)
  have q1 : z % 2 ^ k + 1 ≤ 2 ^ k := Int.emod_lt_of_pos _ hp
  have h2 := Int.mul_le_mul_of_nonneg_right q1 (Int.le_of_lt hpr)
  rw [hp2, Int.add_mul, Int.one_mul] at h2
  have h3 : 0 ≤ z % 2 ^ k * 2 ^ (32 - k) := Int.mul_nonneg q0 (Int.le_of_lt hpr)
  rw [hq]
  refine ⟨?_, by omega, by omega⟩
  by_cases h0 : k = 0
  · subst h0
    have e : z % 2 ^ 0 * 2 ^ (32 - 0) = 0 := by simp [Int.emod_one]
    rw [e]
    obtain ⟨a, ha⟩ := Int.eq_ofNat_of_zero_le a0
    rw [ha]
    have := bits_or_u32_nat a 0 (by simp at a1; omega) (by omega)
    simpa using this
  · exact or_low (by omega) a0 a1 q0 (by omega)

theorem Down.step {ds Lj : List Int} {m k j : Nat} (h : Down ds Lj m k j) (hj : j < m) (v : Int) (hv : v = ds.getD j 0 / 2 ^ k + ds.getD (j + 1) 0 % 2 ^ k * 2 ^ (32 - k)) (h0 : 0 ≤ v ∧ v < 4294967296) :
    Down ds (Lj.set j v) m k (j + 1) := by
  obtain ⟨h1, h2, h3, h4, h5⟩ := h
  refine ⟨by simp [h1], h2.set _ h0, ?_, h4, ?_⟩
  · have : (Lj.drop j).drop 1 = (ds.drop j).drop 1 := by rw [h3]
    rw [List.drop_drop, List.drop_drop] at this
    rw [← this, List.drop_set_of_lt (by omega)]
  · intro i hi
    rw [getD_set _ _ _ _ (by omega)]
    by_cases he : j = i
    · subst he; rw [if_pos rfl]; exact hv
    · rw [if_neg he]; exact h5 i (by omega)

/-- all limbs shifted down -/
def shr (k : Nat) : List Int → List Int
  | [] => []
  | z :: rest => (z / 2 ^ k + rest.getD 0 0 % 2 ^ k * 2 ^ (32 - k)) :: shr k rest

theorem shr_length (k : Nat) (ds : List Int) : (shr k ds).length = ds.length := by
  induction ds with
  | nil => rfl
  | cons z r ih => simp [shr, ih]
theorem shr_getD (k : Nat) (ds : List Int) (i : Nat) (h : i < ds.length) : (shr k ds).getD i 0 = ds.getD i 0 / 2 ^ k + ds.getD (i + 1) 0 % 2 ^ k * 2 ^ (32 - k) := by
  induction ds generalizing i with
  | nil => simp at h
  | cons z r ih =>
    cases i with
    | zero => simp [shr]
    | succ i =>
      have := ih i (by simpa using h)
      simpa [shr] using this

theorem num_shr {k : Nat} (hk : k < 32) (ds : List Int) : num (shr k ds) = num ds / 2 ^ k := by
  have hp : (0 : Int) < 2 ^ k := Int.pow_pos (by omega)
  have hp2 := pow_split hk
  induction ds with
  | nil => simp [shr, num]
  | cons z r ih =>
    simp only [shr, num, ih]
    have e1 : (z + 4294967296 * num r) / 2 ^ k = z / 2 ^ k + 2 ^ (32 - k) * num r := by
      rw [← hp2, Int.mul_assoc, Int.add_mul_ediv_left _ _ (by omega)]
    have e2 : num r % 2 ^ k = r.getD 0 0 % 2 ^ k := by
      cases r with
      | nil => simp [num]
      | cons h t =>
        simp only [num, List.getD_cons_zero]
        rw [← hp2, Int.mul_assoc, Int.add_mul_emod_self_left]
    have e3 := Int.mul_ediv_add_emod (num r) (2 ^ k)
    rw [e1, ← e2]
    have e4 : 2 ^ (32 - k) * num r = 4294967296 * (num r / 2 ^ k) + num r % 2 ^ k * 2 ^ (32 - k) := by
      have : 2 ^ (32 - k) * num r = 2 ^ (32 - k) * (2 ^ k * (num r / 2 ^ k) + num r % 2 ^ k) := by rw [e3]
      rw [this, Int.mul_add, ← Int.mul_assoc, Int.mul_comm (2 ^ (32 - k)) (2 ^ k), hp2, Int.mul_comm (2 ^ (32 - k)) (num r % 2 ^ k)]
    rw [e4]
    omega

theorem Down.done {ds Lj : List Int} {m k : Nat} (hk : k < 32) (h : Down ds Lj m k m) : num Lj = num ds / 2 ^ k := by
  obtain ⟨h1, _, _, h4, h5⟩ := h
  have : Lj = shr k ds := by
    apply List.ext_getElem (by rw [h1, shr_length, h4])
    intro i hi hi2
    rw [← getD_at hi, ← getD_at hi2, h5 i (by omega), shr_getD k ds i (by omega)]
  rw [this, num_shr hk]

set_option maxRecDepth 100000 in
set_option maxHeartbeats 1000000 in
theorem shiftDown_raw (zs : List Int) (s k : Nat) (ao : Option Addr) (n ca : Nat) (w : World) (ha : Sl w ao n ca zs) (hk : k < 32) (hn : n ≤ 1000000000) (hs : s < n) :
    Calls Tryz.prog 116 #[.slice ao n ca, .int .i64 ((s * 32 + k : Nat) : Int)] w fun e w' => ∃ ao' l cap, e = .returned (.slice ao' l cap) ∧ Sl w' ao' l cap (limbs (num (zs.drop s) / 2 ^ k).toNat) ∧ Below w.heap.size w w' := by
  have hd : ((s * 32 + k : Nat) : Int) / 32 = (s : Int) := by omega
  have hr : ((s * 32 + k : Nat) : Int) % 32 = (k : Int) := by omega
  obtain ⟨x, hx⟩ : ∃ x : Int, ((s * 32 + k : Nat) : Int) = x := ⟨_, rfl⟩
  rw [hx] at hd hr ⊢
  have hx0 : 0 ≤ x := by omega
  have hx1 : x ≤ 100000000000 := by omega
  have HX := Lib.hid hx; clear hx
  have hcap := ha.cap
  have hsd : ∀ ao', (∀ b off, ao = some ⟨b, off, none⟩ → ao' = some ⟨b, off + s, none⟩) → Sl w ao' (n - s) (ca - s) (zs.drop s) := fun ao' h =>
    ⟨by rw [List.length_drop, ha.len], by omega, by omega, ha.wf.drop s, fun h0 => by
      obtain ⟨b, off, e, hc⟩ := ha.cells (by rw [ha.len]; omega)
      refine ⟨b, off + s, h b off e, fun j hj => ?_⟩
      rw [List.length_drop, ha.len] at hj
      have := hc (s + j) (by rw [ha.len]; omega)
      rw [show off + s + j = off + (s + j) by omega, this]
      simp [List.getD, List.getElem?_drop]⟩
  obtain ⟨bb, ob, rfl, hcb⟩ := ha.cells (by rw [ha.len]; omega)
  have hs1 := hsd (some ⟨bb, ob + s, none⟩) (fun b off e => by cases e; rfl)
  clear hsd hcb
  go_enter Tryz.func116, Tryz.ntmps116
  go_wp2_with fail
  refine (clone_any _ _ _ _ _ hs1).mono ?_
  rintro e w1 ⟨rfl, hb1, hw1⟩
  have hsa := ha.cells.stay_below hw1 (Nat.le_refl _)
  generalize hg : w.heap.size = g at *
  have HG := Lib.hid hg; clear hg
  have hal := ha.len
  have HAL := Lib.hid hal; clear hal
  have hwz := ha.wf
  have hm0 : 0 < n - s := by omega
  have hmn : n - s ≤ n := by omega
  have hms : (((n - s : Nat) : Int)) = (n : Int) - s := by omega
  have HMS := Lib.hid hms; clear hms
  generalize hm : n - s = m at *
  have HM := Lib.hid hm; clear hm
  go_wp2
  go_loopw [8, 23] (fun _ i wr => ∃ (j : Nat) (Lj : List Int), j ≤ m ∧ i = .int .i64 j ∧ Down (zs.drop s) Lj m k j ∧ Blk wr g Lj ∧ Only g w1 wr)
    (fun _ i _ => m - (intOf i).toNat)
  case atStart => exact ⟨0, _, Nat.zero_le _, rfl, Down.start (by rw [List.length_drop, HAL.out, HM.out]) (hwz.drop s), hb1, Only.refl g w1⟩
  case round =>
    obtain ⟨j, Lj, hj, rfl, hU, hbk, ho⟩ := hrel
    have hl := hU.1
    have HU := Lib.hid hU; clear hU
    by_cases hlt : j < m
    · have c2 := hbk.cell j (by omega)
      have c3 := hbk.frozen j
      obtain ⟨y, hy⟩ : ∃ y, Lj.getD j 0 = y := ⟨_, rfl⟩
      rw [hy] at c2
      have HY := Lib.hid hy; clear hy
      have hyr := (HU.out.2.1.getD j)
      rw [HY.out] at hyr
      obtain ⟨y0, y1⟩ := hyr
      have HL := Lib.hid hl; clear hl
      by_cases hnx : s + j + 1 < n
      · obtain ⟨b2, o2, e2, hcb⟩ := hsa _ ho (by rw [HAL.out]; omega)
        cases e2
        have c1 := hcb (s + j + 1) (by rw [HAL.out]; omega)
        clear hcb
        obtain ⟨z, hz⟩ : ∃ z, zs.getD (s + j + 1) 0 = z := ⟨_, rfl⟩
        rw [hz] at c1
        have hzr := hwz.getD (s + j + 1)
        rw [hz] at hzr
        have HZ := Lib.hid hz; clear hz
        obtain ⟨z0, z1⟩ := hzr
        go_wp2
        have hb2 := hbk.set j (y / 2 ^ k)
        have ho2 := ho.setCell j (.int .u32 (y / 2 ^ k))
        generalize wr.setCell ⟨g, j, none⟩ (.int .u32 (y / 2 ^ k)) = W2 at *
        obtain ⟨b3, o3, e3, hcb⟩ := hsa _ ho2 (by rw [HAL.out]; omega)
        cases e3
        have c5 := hcb (s + j + 1) (by rw [HAL.out]; omega)
        rw [HZ.out] at c5
        clear hcb c1 c2 c3 hbk ho
        have c6 := hb2.cell j (by simp; rw [HL.out]; omega)
        have hgd : (Lj.set j (y / 2 ^ k)).getD j 0 = y / 2 ^ k := by rw [getD_set _ _ _ _ (by rw [HL.out]; omega), if_pos rfl]
        rw [hgd] at c6
        clear hgd
        have c7 := hb2.frozen j
        go_region
        go_wp2
        go_roundw
        case rel =>
          obtain ⟨t1, t2, t3⟩ := limb_down (z := z) hk y0 y1
          have hyd : (zs.drop s).getD j 0 = y := by rw [← HY.out, getD_of_drop HU.out.2.2.1]
          have hzd : (zs.drop s).getD (j + 1) 0 = z := by rw [← HZ.out]; simp [List.getD, List.getElem?_drop, Nat.add_assoc]
          have st := HU.out.step hlt _ (by rw [hyd, hzd]) ⟨t2, t3⟩
          have hbn := (hb2.set j (bits BinOp.or IntKind.u32 (y / 2 ^ k) (z * 2 ^ (32 - k) % 4294967296))).drew
          rw [t1] at hbn ⊢
          rw [List.set_set] at hbn
          exact ⟨j + 1, _, by omega, by go_num, st, hbn, (ho2.setCell _ _).drew⟩
        case measure => simp [intOf] <;> omega
      · go_wp2
        go_roundw
        case rel =>
          have hyd : (zs.drop s).getD j 0 = y := by rw [← HY.out, getD_of_drop HU.out.2.2.1]
          have hzd : (zs.drop s).getD (j + 1) 0 = 0 := by
            have := HAL.out
            simp only [List.getD, List.getElem?_drop]
            rw [List.getElem?_eq_none (by omega)]; rfl
          have hp : (0 : Int) < 2 ^ k := Int.pow_pos (by omega)
          have a0 : 0 ≤ y / 2 ^ k := Int.ediv_nonneg y0 (by omega)
          have a1 : y / 2 ^ k ≤ y := Int.ediv_le_self _ y0
          have st := HU.out.step hlt (y / 2 ^ k) (by rw [hyd, hzd]; simp) ⟨a0, by omega⟩
          exact ⟨j + 1, _, by omega, by go_num, st, hbk.set _ _, ho.setCell _ _⟩
        case measure => simp [intOf] <;> omega
    · obtain rfl : j = m := by omega
      have HL := Lib.hid hl; clear hl
      go_wp2_with fail
      refine (trim_sl _ _ _ Lj wr (hbk.sl HU.out.2.1 HL.out (by omega) (Nat.le_refl _))).mono ?_
      rintro e w4 ⟨i, rfl, hs4, rfl⟩
      go_wp2
      go_ret
      refine ⟨_, i, _, rfl, ?_, by rw [HG.out]; exact hw1.trans (ho.below (Nat.le_refl _))⟩
      rw [HU.out.done hk] at hs4
      exact hs4

theorem pow_le' {a b : Nat} (h : a ≤ b) : 4294967296 ^ a ≤ 4294967296 ^ b := Nat.pow_le_pow_right (by omega) h

theorem num_drop_div {zs : List Int} (h : Wf zs) (s : Nat) (hs : s ≤ zs.length) : num (zs.drop s) = num zs / 4294967296 ^ s := by
  have e := num_append (zs.take s) (zs.drop s)
  rw [List.take_append_drop, List.length_take, Nat.min_eq_left hs] at e
  have h1 := num_lt (h.take s)
  rw [List.length_take, Nat.min_eq_left hs] at h1
  have h0 := num_nonneg (h.take s)
  rw [e, Int.add_mul_ediv_left _ _ (Int.ne_of_gt (pow_pos' s)), Int.ediv_eq_zero_of_lt h0 h1]
  omega

theorem pow32 (s k : Nat) : (2 : Nat) ^ (s * 32 + k) = 4294967296 ^ s * 2 ^ k := by
  rw [Nat.pow_add, Nat.mul_comm s 32, Nat.pow_mul]

/-- a number times a power of two -/
theorem shiftUp_any (a e : Nat) (ao : Option Addr) (n ca : Nat) (w : World) (ha : Sl w ao n ca (limbs a)) (hn : n ≤ 1000000000) (he : e ≤ 30000000000) :
    Calls Tryz.prog 115 #[.slice ao n ca, .int .i64 (e : Int)] w fun r w' => ∃ ao' l cap, r = .returned (.slice ao' l cap) ∧ Sl w' ao' l cap (limbs (a * 2 ^ e)) ∧ Below w.heap.size w w' := by
  have h := shiftUp_raw (limbs a) (e / 32) (e % 32) ao n ca w ha (by omega) hn (by omega)
  have e1 : e / 32 * 32 + e % 32 = e := by omega
  have e2 : (num (limbs a) * 4294967296 ^ (e / 32) * 2 ^ (e % 32)).toNat = a * 2 ^ e := by
    rw [num_limbs]
    have : (a : Int) * 4294967296 ^ (e / 32) * 2 ^ (e % 32) = ((a * 2 ^ e : Nat) : Int) := by
      rw [Int.natCast_mul]
      conv => rhs; rw [← e1, pow32, Int.natCast_mul, Int.natCast_pow, Int.natCast_pow]
      rw [Int.mul_assoc]; rfl
    rw [this, Int.toNat_natCast]
  rw [e1, e2] at h
  exact h

set_option maxRecDepth 100000 in
set_option maxHeartbeats 1000000 in
theorem shiftDown_far (x : Int) (ao : Option Addr) (n ca : Nat) (w : World) (hx0 : 0 ≤ x) (hx1 : x ≤ 100000000000) (hn : (n : Int) ≤ x / 32) :
    Calls Tryz.prog 116 #[.slice ao n ca, .int .i64 x] w fun r w' => r = .returned (.slice none 0 0) ∧ w = w' := by
  go_enter Tryz.func116, Tryz.ntmps116
  go_wp2
  go_ret
  exact ⟨rfl, rfl⟩

/-- a number divided by a power of two -/
theorem shiftDown_any (a e : Nat) (ao : Option Addr) (n ca : Nat) (w : World) (ha : Sl w ao n ca (limbs a)) (hn : n ≤ 1000000000) (he : e ≤ 100000000000) :
    Calls Tryz.prog 116 #[.slice ao n ca, .int .i64 (e : Int)] w fun r w' => ∃ ao' l cap, r = .returned (.slice ao' l cap) ∧ Sl w' ao' l cap (limbs (a / 2 ^ e)) ∧ Below w.heap.size w w' := by
  have e1 : e / 32 * 32 + e % 32 = e := by omega
  by_cases h : e / 32 < n
  · have h := shiftDown_raw (limbs a) (e / 32) (e % 32) ao n ca w ha (by omega) hn h
    have e2 : (num ((limbs a).drop (e / 32)) / 2 ^ (e % 32)).toNat = a / 2 ^ e := by
      rw [num_drop_div (Wf.limbs a) _ (by rw [ha.len]; omega), num_limbs]
      have : (a : Int) / 4294967296 ^ (e / 32) / 2 ^ (e % 32) = ((a / 2 ^ e : Nat) : Int) := by
        conv => rhs; rw [← e1, pow32, ← Nat.div_div_eq_div_mul, Int.natCast_ediv, Int.natCast_ediv, Int.natCast_pow, Int.natCast_pow]
        rfl
      rw [this, Int.toNat_natCast]
    rw [e1, e2] at h
    exact h
  · refine (shiftDown_far e ao n ca w (by omega) (by omega) (by omega)).mono fun r w' ⟨hr, hw⟩ => ⟨none, 0, 0, hr, ?_, ?_⟩
    · have h1 := (limbs_len_le a n).1 (by rw [ha.len]; exact Nat.le_refl _)
      have h2 : a < 2 ^ e := by
        have h3 : 4294967296 ^ n ≤ 2 ^ e := by
          rw [← e1, pow32]
          have := pow_le' (show n ≤ e / 32 by omega)
          exact Nat.le_trans this (Nat.le_mul_of_pos_right _ (Nat.pos_of_ne_zero (by simp)))
        omega
      rw [Nat.div_eq_of_lt h2, limbs_zero]
      exact Sl.nil w'
    · rw [← hw]; exact Below.refl _ _
end Go.Proofs.YtjohpdobnedilaaGreatDoor

/- The library's contracts for functions of Go's library, at this program. -/
namespace Go.Proofs
open Go.Shelf
def Tryz.lays128_ren : Go.Shelf.Ren := ⟨fun | 128 => 122 | n => n, fun | 51 => 64 | 3 => 3 | 4 => 4 | 46 => 72 | 5 => 5 | 9 => 9 | n => n, fun | n => n⟩
theorem Tryz.lays128 : Go.Proofs.Lays.n128 Tryz.prog Tryz.lays128_ren := {
  mixed := by kernel_rfl
  f128 := Tryz.func122.trans (congrArg some (by kernel_rfl))
  t3 := Tryz.underlying3
  a3 := Tryz.isAgg3
  z3 := Tryz.sizeOf3
  v3 := Tryz.zeroValue3
  t4 := Tryz.underlying4
  a4 := Tryz.isAgg4
  z4 := Tryz.sizeOf4
  v4 := Tryz.zeroValue4
  t5 := Tryz.underlying5
  a5 := Tryz.isAgg5
  z5 := Tryz.sizeOf5
  v5 := Tryz.zeroValue5
  t9 := Tryz.underlying9
  a9 := Tryz.isAgg9
  z9 := Tryz.sizeOf9
  v9 := Tryz.zeroValue9
  t46 := Tryz.underlying72
  a46 := Tryz.isAgg72
  z46 := Tryz.sizeOf72
  v46 := Tryz.zeroValue72
  t51 := Tryz.underlying64
  a51 := Tryz.isAgg64
  z51 := Tryz.sizeOf64
  v51 := Tryz.zeroValue64 }
theorem Tryz.bits_Len32 (x : Int) (w : World) (h0 : 0 ≤ x) (h1 : x ≤ 4294967295) :
    Calls Tryz.prog 122 #[.int .u32 x] w fun e w' => e = .returned (.int .i64 (Lib.bitLen x.toNat)) ∧ w' = w := Any.bits_Len32 Tryz.lays128 x w h0 h1
def Tryz.lays125_ren : Go.Shelf.Ren := ⟨fun | 125 => 177 | 128 => 122 | 129 => 189 | n => n, fun | 46 => 72 | 3 => 3 | 51 => 64 | 53 => 22 | 4 => 4 | 5 => 5 | 9 => 9 | n => n, fun | n => n⟩
theorem Tryz.lays125 : Go.Proofs.Lays.n125 Tryz.prog Tryz.lays125_ren := {
  mixed := by kernel_rfl
  f125 := Tryz.func177.trans (congrArg some (by kernel_rfl))
  f128 := Tryz.func122.trans (congrArg some (by kernel_rfl))
  f129 := Tryz.func189.trans (congrArg some (by kernel_rfl))
  t3 := Tryz.underlying3
  a3 := Tryz.isAgg3
  z3 := Tryz.sizeOf3
  v3 := Tryz.zeroValue3
  t4 := Tryz.underlying4
  a4 := Tryz.isAgg4
  z4 := Tryz.sizeOf4
  v4 := Tryz.zeroValue4
  t5 := Tryz.underlying5
  a5 := Tryz.isAgg5
  z5 := Tryz.sizeOf5
  v5 := Tryz.zeroValue5
  t9 := Tryz.underlying9
  a9 := Tryz.isAgg9
  z9 := Tryz.sizeOf9
  v9 := Tryz.zeroValue9
  t46 := Tryz.underlying72
  a46 := Tryz.isAgg72
  z46 := Tryz.sizeOf72
  v46 := Tryz.zeroValue72
  t51 := Tryz.underlying64
  a51 := Tryz.isAgg64
  z51 := Tryz.sizeOf64
  v51 := Tryz.zeroValue64
  t53 := Tryz.underlying22
  a53 := Tryz.isAgg22
  z53 := Tryz.sizeOf22
  v53 := Tryz.zeroValue22 }
theorem Tryz.bits_Len (x : Int) (w : World) (h0 : 0 ≤ x) (h1 : x ≤ 18446744073709551615) :
    Calls Tryz.prog 177 #[.int .u64 x] w fun e w' => e = .returned (.int .i64 (Lib.bitLen x.toNat)) ∧ w' = w := Any.bits_Len Tryz.lays125 x w h0 h1
def Tryz.lays133_ren : Go.Shelf.Ren := ⟨fun | 133 => 197 | 128 => 122 | n => n, fun | 51 => 64 | 3 => 3 | 4 => 4 | 46 => 72 | 5 => 5 | 9 => 9 | n => n, fun | n => n⟩
theorem Tryz.lays133 : Go.Proofs.Lays.n133 Tryz.prog Tryz.lays133_ren := {
  mixed := by kernel_rfl
  f128 := Tryz.func122.trans (congrArg some (by kernel_rfl))
  f133 := Tryz.func197.trans (congrArg some (by kernel_rfl))
  t3 := Tryz.underlying3
  a3 := Tryz.isAgg3
  z3 := Tryz.sizeOf3
  v3 := Tryz.zeroValue3
  t4 := Tryz.underlying4
  a4 := Tryz.isAgg4
  z4 := Tryz.sizeOf4
  v4 := Tryz.zeroValue4
  t5 := Tryz.underlying5
  a5 := Tryz.isAgg5
  z5 := Tryz.sizeOf5
  v5 := Tryz.zeroValue5
  t9 := Tryz.underlying9
  a9 := Tryz.isAgg9
  z9 := Tryz.sizeOf9
  v9 := Tryz.zeroValue9
  t46 := Tryz.underlying72
  a46 := Tryz.isAgg72
  z46 := Tryz.sizeOf72
  v46 := Tryz.zeroValue72
  t51 := Tryz.underlying64
  a51 := Tryz.isAgg64
  z51 := Tryz.sizeOf64
  v51 := Tryz.zeroValue64 }
theorem Tryz.bits_LeadingZeros32 (x : Int) (w : World) (h0 : 0 ≤ x) (h1 : x ≤ 4294967295) :
    Calls Tryz.prog 197 #[.int .u32 x] w fun e w' => e = .returned (.int .i64 (32 - (Lib.bitLen x.toNat : Int))) ∧ w' = w := Any.bits_LeadingZeros32 Tryz.lays133 x w h0 h1
end Go.Proofs

/- What integer.divide does where the divisor has two limbs or more (Knuth's algorithm D). -/
namespace Go.Proofs.YtjohpdobnedilaaGreatDoor
open Go.RowKit

theorem bitLen_zero : Lib.bitLen 0 = 0 := by unfold Lib.bitLen; unfold Lib.bitLenAux; simp

theorem bitLen_spec (x : Nat) (h0 : x ≠ 0) (h : x < 2 ^ 64) : ∃ l, Lib.bitLen x = l + 1 ∧ 2 ^ l ≤ x ∧ x < 2 ^ (l + 1) := by
  induction x using Nat.strongRecOn with
  | _ x ih =>
    by_cases h1 : x / 2 = 0
    · refine ⟨0, ?_, by omega, by omega⟩
      rw [Lib.bitLen_half x h0 h, h1, bitLen_zero]
    · obtain ⟨l, e, l0, l1⟩ := ih (x / 2) (by omega) h1 (by omega)
      refine ⟨l + 1, ?_, ?_, ?_⟩
      · rw [Lib.bitLen_half x h0 h, e]; omega
      · rw [Nat.pow_succ]; omega
      · rw [Nat.pow_succ] at l1 ⊢; omega

/-- the shift that puts a one into the top bit of the divisor -/
theorem norm_shift {b m : Nat} (hm : (limbs b).length = m + 1) :
    ∃ k : Nat, k < 32 ∧ 32 - (Lib.bitLen ((limbs b).getD m 0).toNat : Int) = (k : Int) ∧ (limbs (b * 2 ^ k)).length = m + 1 ∧ 2147483648 ≤ (limbs (b * 2 ^ k)).getD m 0 := by
  have h1 : b < 4294967296 ^ (m + 1) := (limbs_len_le b (m + 1)).1 (by omega)
  have h2 : 4294967296 ^ m ≤ b := by
    rcases Nat.lt_or_ge b (4294967296 ^ m) with h | h
    · have := (limbs_len_le b m).2 h; omega
    · exact h
  have hpm : 0 < 4294967296 ^ m := Nat.pos_of_ne_zero (by simp)
  have hd1 : b / 4294967296 ^ m < 4294967296 := by
    rw [Nat.div_lt_iff_lt_mul hpm, Nat.mul_comm, ← Nat.pow_succ]; exact h1
  have hd0 : 0 < b / 4294967296 ^ m := Nat.div_pos h2 hpm
  have ht : (limbs b).getD m 0 = ((b / 4294967296 ^ m : Nat) : Int) := by
    rw [limbs_at, Nat.mod_eq_of_lt hd1]
  rw [ht, Int.toNat_natCast]
  generalize htt : b / 4294967296 ^ m = t at *
  obtain ⟨l, e, l0, l1⟩ := bitLen_spec t (by omega) (by omega)
  have hl : l < 32 := by
    rcases Nat.lt_or_ge l 32 with h | h
    · exact h
    · have := Nat.pow_le_pow_right (show 0 < 2 by omega) h
      omega
  refine ⟨31 - l, by omega, by rw [e]; omega, ?_, ?_⟩
  all_goals
    have hp : 2 ^ (31 - l) * 2 ^ l = 2147483648 := by rw [← Nat.pow_add, show 31 - l + l = 31 by omega]
    have hp2 : 2 ^ (31 - l) * 2 ^ (l + 1) = 4294967296 := by rw [← Nat.pow_add, show 31 - l + (l + 1) = 32 by omega]
    have hk0 : 0 < 2 ^ (31 - l) := Nat.pos_of_ne_zero (by simp)
    -- b 2^k / R^m = ..
    have hb1 : b < (t + 1) * 4294967296 ^ m := by
      rw [← htt, Nat.add_mul, Nat.one_mul, Nat.mul_comm (b / 4294967296 ^ m)]
      have := Nat.div_add_mod b (4294967296 ^ m)
      have := Nat.mod_lt b hpm
      omega
    have hb0 : t * 4294967296 ^ m ≤ b := by rw [← htt]; exact Nat.div_mul_le_self _ _
    have hv1 : b * 2 ^ (31 - l) < 4294967296 ^ (m + 1) := by
      have a1 : b * 2 ^ (31 - l) < (t + 1) * 4294967296 ^ m * 2 ^ (31 - l) := Nat.mul_lt_mul_of_pos_right hb1 hk0
      have a2 : (t + 1) * 4294967296 ^ m * 2 ^ (31 - l) ≤ 2 ^ (l + 1) * 4294967296 ^ m * 2 ^ (31 - l) := Nat.mul_le_mul_right _ (Nat.mul_le_mul_right _ (by omega))
      have a3 : 2 ^ (l + 1) * 4294967296 ^ m * 2 ^ (31 - l) = 4294967296 ^ (m + 1) := by
        rw [Nat.mul_right_comm, Nat.mul_comm (2 ^ (l + 1)), hp2, Nat.pow_succ, Nat.mul_comm]
      omega
    have hv0 : 2147483648 * 4294967296 ^ m ≤ b * 2 ^ (31 - l) := by
      have a1 : 2 ^ l * 4294967296 ^ m * 2 ^ (31 - l) ≤ b * 2 ^ (31 - l) := Nat.mul_le_mul_right _ (Nat.le_trans (Nat.mul_le_mul_right _ l0) hb0)
      have a3 : 2 ^ l * 4294967296 ^ m * 2 ^ (31 - l) = 2147483648 * 4294967296 ^ m := by
        rw [Nat.mul_right_comm, Nat.mul_comm (2 ^ l), hp]
      omega
  · have g1 := (limbs_len_le (b * 2 ^ (31 - l)) (m + 1)).2 hv1
    rcases Nat.lt_or_ge (limbs (b * 2 ^ (31 - l))).length (m + 1) with h | h
    · exfalso
      have g2 := (limbs_len_le (b * 2 ^ (31 - l)) m).1 (by omega)
      omega
    · omega
  · rw [limbs_at]
    have g1 : 2147483648 ≤ b * 2 ^ (31 - l) / 4294967296 ^ m := (Nat.le_div_iff_mul_le hpm).2 hv0
    have g2 : b * 2 ^ (31 - l) / 4294967296 ^ m < 4294967296 := by
      rw [Nat.div_lt_iff_lt_mul hpm]
      rw [Nat.pow_succ, Nat.mul_comm (4294967296 ^ m)] at hv1
      exact hv1
    rw [Nat.mod_eq_of_lt g2]
    omega

/-- from limb j on the quotient stands in Q, and what is left in U is less than v at that place -/
def Knuth (u v : Int) (U Q : List Int) (nu nq j : Nat) : Prop :=
  U.length = nu ∧ Q.length = nq ∧ Wf U ∧ Wf Q ∧ u = num U + v * (4294967296 ^ j * num (Q.drop j)) ∧ num U < v * 4294967296 ^ j

theorem Knuth.window {u v : Int} {U Q : List Int} {nu nq t m : Nat} (h : Knuth u v U Q nu nq (t + 1)) (hv1 : v < 4294967296 ^ m) (hl : t + (m + 1) ≤ nu) :
    num U = num (U.take t) + 4294967296 ^ t * num ((U.drop t).take (m + 1)) ∧ num (U.drop (t + (m + 1))) = 0 ∧ num ((U.drop t).take (m + 1)) < v * 4294967296 := by
  obtain ⟨h1, h2, h3, h4, h5, h6⟩ := h
  have e1 := num_append (U.take t) (U.drop t)
  have e2 := num_append ((U.drop t).take (m + 1)) ((U.drop t).drop (m + 1))
  rw [List.take_append_drop, List.length_take, Nat.min_eq_left (by omega)] at e1
  rw [List.take_append_drop, List.length_take, List.length_drop, Nat.min_eq_left (by omega), List.drop_drop] at e2
  have p0 := num_nonneg (h3.take t)
  have v0 := num_nonneg ((h3.drop t).take (m + 1))
  have t0 := num_nonneg (h3.drop (t + (m + 1)))
  have hpt := pow_pos' t
  have hT : num (U.drop (t + (m + 1))) = 0 := by
    rcases Int.lt_or_eq_of_le t0 with hlt | heq
    · exfalso
      have a1 : (4294967296 : Int) ^ (m + 1) * 1 ≤ 4294967296 ^ (m + 1) * num (U.drop (t + (m + 1))) := Int.mul_le_mul_of_nonneg_left (by omega) (Int.le_of_lt (pow_pos' _))
      have a2 : (4294967296 : Int) ^ t * 4294967296 ^ (m + 1) ≤ 4294967296 ^ t * num (U.drop t) := Int.mul_le_mul_of_nonneg_left (by omega) (Int.le_of_lt hpt)
      have a3 : v * 4294967296 ^ (t + 1) ≤ 4294967296 ^ t * 4294967296 ^ (m + 1) := by
        have := Int.mul_le_mul_of_nonneg_right (Int.le_of_lt hv1) (Int.le_of_lt (pow_pos' (t + 1)))
        have e : (4294967296 : Int) ^ m * 4294967296 ^ (t + 1) = 4294967296 ^ t * 4294967296 ^ (m + 1) := by
          rw [← Int.pow_add, ← Int.pow_add, show m + (t + 1) = t + (m + 1) by omega]
        rw [e] at this
        exact this
      omega
    · exact heq.symm
  rw [hT, Int.mul_zero, Int.add_zero] at e2
  rw [e2] at e1
  refine ⟨e1, hT, ?_⟩
  rcases lt_or_ge_int (num ((U.drop t).take (m + 1))) (v * 4294967296) with hlt | hge
  · exact hlt
  · exfalso
    have a1 := Int.mul_le_mul_of_nonneg_left hge (Int.le_of_lt hpt)
    have a2 : (4294967296 : Int) ^ t * (v * 4294967296) = v * 4294967296 ^ (t + 1) := by rw [Int.pow_succ, Int.mul_left_comm]
    omega

theorem Knuth.step {u v : Int} {U Q V' : List Int} {nu nq t m : Nat} (h : Knuth u v U Q nu nq (t + 1)) (hv0 : 0 < v) (hv1 : v < 4294967296 ^ m) (hl : t + (m + 1) ≤ nu) (hq : t < nq)
    (hV : V'.length = m + 1) (hwf : Wf V') (hr : num V' = num ((U.drop t).take (m + 1)) % v) :
    Knuth u v (U.take t ++ (V' ++ U.drop (t + (m + 1)))) (Q.set t (num ((U.drop t).take (m + 1)) / v)) nu nq t := by
  obtain ⟨w1, w2, w3⟩ := h.window hv1 hl
  obtain ⟨h1, h2, h3, h4, h5, h6⟩ := h
  have v0 := num_nonneg ((h3.drop t).take (m + 1))
  have p0 := num_nonneg (h3.take t)
  have p1 := num_lt (h3.take t)
  rw [List.length_take, Nat.min_eq_left (by omega)] at p1
  have hdm := Int.mul_ediv_add_emod (num ((U.drop t).take (m + 1))) v
  have r0 : 0 ≤ num ((U.drop t).take (m + 1)) % v := Int.emod_nonneg _ (by omega)
  have r1 : num ((U.drop t).take (m + 1)) % v < v := Int.emod_lt_of_pos _ hv0
  have q0 : 0 ≤ num ((U.drop t).take (m + 1)) / v := Int.ediv_nonneg v0 (Int.le_of_lt hv0)
  have q1 : num ((U.drop t).take (m + 1)) / v < 4294967296 := Int.ediv_lt_of_lt_mul hv0 (by rw [Int.mul_comm]; exact w3)
  have eU : num (U.take t ++ (V' ++ U.drop (t + (m + 1)))) = num (U.take t) + 4294967296 ^ t * num V' := by
    rw [num_append, num_append, w2, List.length_take, Nat.min_eq_left (by omega)]
    simp
  have hpt := pow_pos' t
  refine ⟨by simp [h1, hV]; omega, by simpa using h2, (h3.take t).append (hwf.append (h3.drop _)), h4.set _ ⟨q0, q1⟩, ?_, ?_⟩
  · rw [eU, hr, h5, w1, num_drop' (Q.set t _) t (by simp [h2]; omega), List.drop_set_of_lt (by omega), getD_set _ _ _ _ (by omega), if_pos rfl]
    generalize num ((U.drop t).take (m + 1)) = A at *
    generalize num (Q.drop (t + 1)) = C at *
    generalize num (U.take t) = D at *
    have e1 : v * (4294967296 ^ t * (A / v + 4294967296 * C)) = 4294967296 ^ t * (v * (A / v)) + v * (4294967296 ^ (t + 1) * C) := by
      rw [Int.mul_add (4294967296 ^ t), Int.mul_add v, Int.mul_left_comm v, Int.pow_succ, Int.mul_assoc]
    have e2 : (4294967296 : Int) ^ t * A = 4294967296 ^ t * (v * (A / v)) + 4294967296 ^ t * (A % v) := by rw [← Int.mul_add, hdm]
    rw [e1, e2]
    omega
  · rw [eU, hr]
    generalize num ((U.drop t).take (m + 1)) = A at *
    have a1 : (4294967296 : Int) ^ t * (A % v + 1) ≤ 4294967296 ^ t * v := Int.mul_le_mul_of_nonneg_left (by omega) (Int.le_of_lt hpt)
    rw [Int.mul_add, Int.mul_one, Int.mul_comm (4294967296 ^ t) v] at a1
    omega

set_option maxRecDepth 100000 in
set_option maxHeartbeats 4000000 in
theorem divide_long (a b : Nat) (ao bo : Option Addr) (n mm ca cb : Nat) (w : World) (ha : Sl w ao n ca (limbs a)) (hb : Sl w bo (mm + 2) cb (limbs b)) (hab : b ≤ a) (hn : n ≤ 100000000) :
    Calls Tryz.prog 163 #[.slice ao n ca, .slice bo (mm + 2) cb] w fun e w' => ∃ qo qk qc ro rk rc, e = .returned (.tuple #[.slice qo qk qc, .slice ro rk rc]) ∧
      Sl w' qo qk qc (limbs (a / b)) ∧ Sl w' ro rk rc (limbs (a % b)) ∧ Below w.heap.size w w' := by
  have hs : decide (sgn3 (a : Int) b < 0) = false := by simp [sgn3]; omega
  have hmn : mm + 2 ≤ n := by
    have := limbs_mono hab
    rw [ha.len, hb.len] at this
    exact this
  obtain ⟨k, hk, hlz, hvl, hvt⟩ := norm_shift (b := b) (m := mm + 1) (by rw [hb.len])
  obtain ⟨bb, ob, rfl, hc⟩ := hb.cells (by rw [hb.len]; omega)
  have c1 := hc (mm + 1) (by rw [hb.len]; omega)
  clear hc
  have hxr := (Wf.limbs b).getD (mm + 1)
  obtain ⟨x, hx⟩ : ∃ x, (limbs b).getD (mm + 1) 0 = x := ⟨_, rfl⟩
  rw [hx] at c1 hxr hlz
  have HX := Lib.hid hx; clear hx
  obtain ⟨x0, x1⟩ := hxr
  have HLZ := Lib.hid hlz; clear hlz
  have H := Lib.hid hab; clear hab
  have em : (((mm : Int) + 2) == 1) = false := by apply beq_eq_false_iff_ne.2; omega
  go_enter Tryz.func163, Tryz.ntmps163
  go_wp2_with fail
  refine (compare_any _ _ _ _ _ _ _ _ _ ha hb).mono ?_
  rintro e w1 ⟨rfl, q, rfl⟩
  have hbl := hb.len
  obtain ⟨W1, hW1, hq⟩ := drewN_world w q
  rw [hW1]
  clear hW1
  have ha1 := ha.below hq
  have hb1 := hb.below hq
  have c2 : W1.cell? ⟨bb, ob + (mm + 1), none⟩ = some (.int .u32 x) := by rw [hq.cell (p := ⟨bb, ob + (mm + 1), none⟩) (lt_of_cell c1)]; exact c1
  go_wp2_with fail
  refine (Tryz.bits_LeadingZeros32 x _ x0 (by omega)).mono ?_
  rintro e w2 ⟨rfl, rfl⟩
  rw [HLZ.out]
  go_wp2_with fail
  refine (shiftUp_any b k _ _ _ _ hb1 (by omega) (by omega)).mono ?_
  rintro e W2 ⟨vo, vn, vc, rfl, hv2, hw2⟩
  have hvn : vn = mm + 2 := by rw [← hv2.len, hvl]
  subst hvn
  have ha2 := ha1.below hw2
  have hB2 := hq.trans (hw2.mono hq.size)
  clear c1 c2 hb1 ha1 hb hq hw2
  go_wp2_with (refine wpList_make_u32 _ rfl _ _ rfl _ (n + 1) rfl rfl (by omega) (by omega) ?_)
  intro W3 hb3 hw3
  have ha3 := ha2.below hw3
  generalize hg : W2.heap.size = g at *
  have HG := Lib.hid hg; clear hg
  have hg3 := hb3.lt
  go_wp2_with fail
  refine (shiftUp_any a k _ _ _ _ ha3 (by omega) (by omega)).mono ?_
  rintro e W4 ⟨uo, un, uc, rfl, hu4, hw4⟩
  have hb4 := hb3.below hw4
  have hg4 := hw4.size
  have hun : un ≤ n + 1 := by
    rw [← hu4.len]
    have h1 := (limbs_len_le a n).1 (by rw [ha2.len]; exact Nat.le_refl _)
    refine (limbs_len_le _ _).2 ?_
    have h2 : 2 ^ k < 4294967296 := by
      have := Nat.pow_lt_pow_right (show 1 < 2 by omega) hk
      omega
    calc a * 2 ^ k < 4294967296 ^ n * 2 ^ k := Nat.mul_lt_mul_of_pos_right h1 (Nat.pos_of_ne_zero (by simp))
      _ ≤ 4294967296 ^ n * 4294967296 := Nat.mul_le_mul_left _ (Nat.le_of_lt h2)
      _ = _ := (Nat.pow_succ ..).symm
  go_wp2_with (with_reducible refine wpList_copy_u32 rfl (.tmp 42) (.tmp 45) rfl Tryz.underlying35 Tryz.sizeU32 g 0 (n + 1) (n + 1) uo un uc rfl rfl _ hb4 _ hu4 hun (by simp; omega) ?_)
  intro W5 hb5 hw5
  have hg5 : W4.heap.size ≤ W5.heap.size := Nat.le_of_eq hw5.size.symm
  have hB5 : Below g W2 W5 := (hw3.trans (hw4.mono (by omega))).trans (hw5.below (Nat.le_refl _))
  obtain ⟨U0, hU0⟩ : ∃ U0, splice (List.replicate (n + 1) 0) 0 (limbs (a * 2 ^ k)) = U0 := ⟨_, rfl⟩
  rw [hU0] at hb5
  have hU0l : U0.length = n + 1 := by
    have := hu4.len
    rw [← hU0]; simp [splice]; omega
  have hU0w : Wf U0 := by
    rw [← hU0]; simp only [splice, List.take_zero, List.nil_append]
    exact (Wf.limbs _).append ((Wf.replicate _).drop _)
  have hU0n : num U0 = ((a * 2 ^ k : Nat) : Int) := by
    rw [← hU0]; simp only [splice, List.take_zero, List.nil_append]
    rw [num_append, List.drop_replicate, num_replicate, num_limbs]; simp
  have HU0 := Lib.hid hU0; clear hU0 hun hu4 hw4 hw5 hb4 hb3 ha3 hw3 ha2
  obtain ⟨nq, hnq⟩ : ∃ nq : Nat, (n : Int) - (mm + 2) + 1 = nq := ⟨n - (mm + 2) + 1, by omega⟩
  have HNQ := Lib.hid hnq
  have hnq1 : nq ≤ 100000000 := by omega
  go_wp2_with (refine wpList_make_u32 _ rfl _ _ rfl _ nq rfl rfl (by omega) (by omega) ?_)
  intro W6 hb6 hw6
  have hbu := hb5.below hw6
  have hB6 := hB5.trans (hw6.mono (by omega))
  generalize hgq : W5.heap.size = gq at *
  have HGQ := Lib.hid hgq; clear hgq
  clear hw6 hb5 hB5
  have hgg : g < gq := by omega
  have hgg' : g ≠ gq := by omega
  have v0 : (0 : Int) < ((b * 2 ^ k : Nat) : Int) := by
    have h1 : b ≠ 0 := by rintro rfl; rw [limbs_zero] at hbl; cases hbl
    have := Nat.mul_pos (Nat.pos_of_ne_zero h1) (show 0 < 2 ^ k from Nat.pos_of_ne_zero (by simp))
    omega
  have v1 : ((b * 2 ^ k : Nat) : Int) < 4294967296 ^ (mm + 2) := by
    have h1 := (limbs_len_le (b * 2 ^ k) (mm + 2)).1 (by rw [hvl]; exact Nat.le_refl _)
    have h2 := Int.ofNat_lt.2 h1
    rw [Int.natCast_pow] at h2
    exact h2
  have hstart : Knuth ((a * 2 ^ k : Nat) : Int) ((b * 2 ^ k : Nat) : Int) U0 (List.replicate nq 0) (n + 1) nq nq := by
    refine ⟨hU0l, by simp, hU0w, Wf.replicate _, ?_, ?_⟩
    · rw [hU0n, List.drop_eq_nil_of_le (by simp)]; simp [num]
    · rw [hU0n]
      have h1 := (limbs_len_le a n).1 (by rw [ha.len]; exact Nat.le_refl _)
      have h2 : 4294967296 ^ (mm + 1) ≤ b := by
        rcases Nat.lt_or_ge b (4294967296 ^ (mm + 1)) with h | h
        · have := (limbs_len_le b (mm + 1)).2 h; omega
        · exact h
      have h3 : a * 2 ^ k < b * 2 ^ k * 4294967296 ^ nq := by
        have e : n = mm + 1 + nq := by omega
        rw [e, Nat.pow_add] at h1
        have h4 := Nat.mul_le_mul_right (4294967296 ^ nq) h2
        have h5 := Nat.mul_lt_mul_of_pos_right (Nat.lt_of_lt_of_le h1 h4) (show 0 < 2 ^ k from Nat.pos_of_ne_zero (by simp))
        rwa [Nat.mul_right_comm] at h5
      have h4 := Int.ofNat_lt.2 h3
      rw [Int.natCast_mul (b * 2 ^ k), Int.natCast_pow] at h4
      exact h4
  have HV0 := Lib.hid v0; clear v0
  have HV1 := Lib.hid v1; clear v1
  have HNQ' := Lib.hid hnq; clear hnq
  go_wp2
  go_loopw [9] (fun i wr => ∃ (j : Nat) (U Q : List Int), j ≤ nq ∧ i = .int .i64 ((j : Int) - 1) ∧ Knuth ((a * 2 ^ k : Nat) : Int) ((b * 2 ^ k : Nat) : Int) U Q (n + 1) nq j ∧ Blk wr g U ∧ Blk wr gq Q ∧ Below g W2 wr)
    (fun i _ => (intOf i + 1).toNat)
  case atStart => exact ⟨nq, U0, _, Nat.le_refl _, rfl, hstart, hbu, hb6, hB6⟩
  case round =>
    obtain ⟨j, U, Q, hj, rfl, hK, hbu, hbq, hB⟩ := hrel
    have HK := Lib.hid hK; clear hK
    by_cases hlt : 0 < j
    · obtain ⟨t, rfl⟩ : ∃ t, j = t + 1 := ⟨j - 1, by omega⟩
      have ej : ((t + 1 : Nat) : Int) - 1 = (t : Int) := by omega
      rw [ej]
      clear ej
      have c3 := hbq.frozen t
      have c2 := hbq.cell t (by rw [HK.out.2.1]; omega)
      have hcap : (t : Int) + (mm + 2) + 1 ≤ n + 1 := by have := HNQ.out; omega
      have hfit : t + (mm + 1 + 1 + 1) ≤ n + 1 := by omega
      have hUl := HK.out.1
      have hQl := HK.out.2.1
      have hwU := HK.out.2.2.1
      go_wp2_with fail
      rw [show t + (mm + 2) + 1 - t = mm + 2 + 1 by omega]
      have hdiv := hv2.cells.stay_below (g := g) (hB.mono (Nat.le_of_eq HG.out)) (by rw [HG.out]; exact Nat.le_refl _)
      have hwin := HK.out.window (m := mm + 2) HV1.out hfit
      have hsplit : U = U.take t ++ ((U.drop t).take (mm + 2 + 1) ++ U.drop (t + (mm + 2 + 1))) := by
        rw [← List.drop_drop, List.take_append_drop, List.take_append_drop]
      have hmid : Mid wr g (U.take t) ((U.drop t).take (mm + 2 + 1)) (U.drop (t + (mm + 2 + 1))) := by
        unfold Mid; rw [← hsplit]; exact hbu
      refine (reduce_any g t mm _ _ (U.take t) ((U.drop t).take (mm + 2 + 1)) (U.drop (t + (mm + 2 + 1))) (limbs (b * 2 ^ k)) _ _ (by rw [List.length_take]; omega) (by rw [List.length_take, List.length_drop]; omega) ((hwU.drop t).take _) hmid (by omega)
        (Wf.limbs _) (by rw [hvl]) hdiv hvt (by rw [num_limbs]; exact hwin.2.2)).mono ?_
      rintro e w7 ⟨V', rfl, hVl, hVw, hVn, hm7, ho7⟩
      rw [num_limbs] at hVn ⊢
      have hst := HK.out.step HV0.out HV1.out hfit (by omega) hVl hVw hVn
      have c4 := (hbq.only ho7 (Ne.symm hgg')).frozen t
      have c5 := (hbq.only ho7 (Ne.symm hgg')).cell t (by omega)
      have hq7 := hbq.only ho7 (Ne.symm hgg')
      generalize num (List.take (mm + 2 + 1) (List.drop t U)) / ((b * 2 ^ k : Nat) : Int) = Z at *
      clear c2 c3 hsplit hmid hbu hbq hdiv
      have hB7 := hB.trans (ho7.below (Nat.le_refl _))
      go_wp2
      go_roundw
      case rel => exact ⟨t, _, _, by omega, rfl, hst, Blk.only hm7 ((Only.refl gq w7).setCell _ _) hgg', hq7.set _ _, hB7.trans (((Only.refl gq w7).setCell _ _).below (Nat.le_of_lt hgg))⟩
      case measure => simp [intOf] <;> omega
    · obtain rfl : j = 0 := by omega
      obtain ⟨hUl, hQl, hwU, hwQ, he, hltv⟩ := HK.out
      have v0 := HV0.out
      rw [Int.pow_zero, Int.one_mul, List.drop_zero] at he
      rw [Int.pow_zero, Int.mul_one] at hltv
      have u0 := num_nonneg hwU
      have q0 := num_nonneg hwQ
      have hdm : num Q = ((a / b : Nat) : Int) ∧ num U = ((a % b * 2 ^ k : Nat) : Int) := by
        have hkk : 0 < 2 ^ k := Nat.pos_of_ne_zero (by simp)
        have e1 : ((a * 2 ^ k : Nat) : Int) / ((b * 2 ^ k : Nat) : Int) = num Q := by
          rw [he, Int.add_mul_ediv_left _ _ (by omega), Int.ediv_eq_zero_of_lt u0 hltv]; omega
        have e2 : ((a * 2 ^ k : Nat) : Int) % ((b * 2 ^ k : Nat) : Int) = num U := by
          rw [he, Int.add_mul_emod_self_left, Int.emod_eq_of_lt u0 hltv]
        constructor
        · rw [← e1, ← Int.natCast_ediv, Nat.mul_div_mul_right _ _ hkk]
        · rw [← e2, ← Int.natCast_emod, Nat.mul_mod_mul_right]
      have HDM := Lib.hid hdm
      clear hdm he hltv u0 q0 v0
      have hsq := hbq.sl hwQ hQl (by omega) (Nat.le_refl nq)
      have hsu := hbu.sl hwU hUl (by omega) (Nat.le_refl (n + 1))
      go_wp2_with fail
      refine (trim_sl _ _ _ Q wr hsq).mono ?_
      rintro e w8 ⟨i, rfl, hs8, rfl⟩
      go_wp2_with fail
      refine (trim_sl _ _ _ U wr hsu).mono ?_
      rintro e w8 ⟨i', rfl, hr8, rfl⟩
      rw [HDM.out.1, Int.toNat_natCast] at hs8
      rw [HDM.out.2, Int.toNat_natCast] at hr8
      have hri : i' ≤ n + 1 := hr8.cap
      go_wp2_with fail
      refine (shiftDown_any (a % b * 2 ^ k) k _ _ _ _ hr8 (by omega) (by omega)).mono ?_
      rintro e w9 ⟨ro, rl, rc, rfl, hr9, hw9⟩
      rw [Nat.mul_div_cancel _ (Nat.pos_of_ne_zero (by simp))] at hr9
      have hs9 := hs8.below hw9
      go_wp2
      go_ret2
      refine ⟨_, _, _, _, _, _, rfl, hs9, hr9, ?_⟩
      exact (hB2.trans (hB.mono (by have := HG.out; have := hB2.size; omega))).trans (hw9.mono (by have := hB2.size; have := hB.size; omega))

/-- quotient and remainder of any numbers, the divisor not zero -/
theorem div_says (a b : Nat) (h0 : b ≠ 0) : DivSays a b := by
  intro ao bo n m ca cb w ha hb hn hm
  rcases Nat.lt_or_ge a b with h | h
  · exact divide_less a b ao bo n m ca cb w ha hb h
  · have hl := hb.len
    rcases m with _ | _ | mm
    · exfalso
      exact h0 (limbs_inj ((List.eq_nil_of_length_eq_zero hl).trans limbs_zero.symm))
    · exact divide_limb a b ao bo n ca cb w ha hb h
    · exact divide_long a b ao bo n mm ca cb w ha hb h hn
end Go.Proofs.YtjohpdobnedilaaGreatDoor

/- What integer.Quo does. -/
namespace Go.Proofs.YtjohpdobnedilaaGreatDoor
open Go.RowKit

end Go.Proofs.YtjohpdobnedilaaGreatDoor
