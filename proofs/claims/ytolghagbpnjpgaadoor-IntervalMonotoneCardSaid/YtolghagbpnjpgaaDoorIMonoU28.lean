import Derived.Test.YtolghagbpnjpgaaDoorIMonoU27
import Derived.Test.YtolghagbpnjpgaaDoorIMonoU14
import Derived.Deep.CutBlock
import Derived.Test.YtolghagbpnjpgaaDoorIMonoU8
import Derived.Test.YtolghagbpnjpgaaDoorIMonoU9
import Derived.Test.YtolghagbpnjpgaaDoorIMonoU15
namespace Go.Proofs.YtolghagbpnjpgaaDoor

theorem fzs_sgi (f : Nat) : fzs f = sgi (fneg f) (fz f) := rfl
theorem fs_fzs (f : Nat) : fs f 1074 = fzs f := by
  unfold fs fzs fu
  rw [fz_mag]
  simp
theorem sgi_mul (s : Bool) (A k : Nat) : sgi s (A * 2 ^ k) = sgi s A * 2 ^ k := by
  unfold sgi
  have : ((A * 2 ^ k : Nat) : Int) = (A : Int) * 2 ^ k := by rw [Int.natCast_mul, Int.natCast_pow]; rfl
  cases s
  · simp only [Bool.false_eq_true, if_false]; exact this
  · simp only [if_true]; rw [this, Int.neg_mul]
theorem rnd_up {S : Int} (h : S ≠ 0) (k : Nat) (e mode : Int) : rnd (S * 2 ^ k) (e - k) mode = rnd S e mode := by
  have hp : (0 : Int) < 2 ^ k := Int.pow_pos (by omega)
  have e1 : decide (S * 2 ^ k < 0) = decide (S < 0) := by
    refine decide_eq_decide.2 ⟨fun h1 => ?_, fun h1 => Int.mul_neg_of_neg_of_pos h1 hp⟩
    rcases Int.lt_or_le S 0 with h2 | h2
    · exact h2
    · exact absurd (Int.mul_nonneg h2 (Int.le_of_lt hp)) (by omega)
  have e2 : (S * 2 ^ k).natAbs = S.natAbs * 2 ^ k := by rw [Int.natAbs_mul, Int.natAbs_pow]; rfl
  rw [rnd_sgz, rnd_sgz, e1, e2]
  congr 1
  exact fla_eq _ (a := 0) (b := k) mode (Nat.mul_ne_zero (by omega) (Nat.pos_iff_ne_zero.1 (Nat.pow_pos (by omega)))) (by rw [Nat.pow_zero, Nat.mul_one]) (by omega)
theorem fz_self {b : Nat} (hb : finB b = true) (hz : zeroB b = false) (hl : b < 18446744073709551616) (mode : Int) : rnd (fzs b) (-1074) mode = b := by
  have h0 : fmag b ≠ 0 := of_decide_eq_false hz
  have h1 : fmag b < 9218868437227405312 := of_decide_eq_true hb
  have h2 : fz b ≠ 0 := fun h => h0 ((fz_zero b).1 h)
  have hp := f_parts hl
  rw [fzs_sgi, rnd_sgi _ h2, fla_fz _ h0 h1]
  exact hp.symm
theorem zero_fzs {a : Nat} (h : zeroB a = true) : fzs a = 0 := by
  unfold fzs
  rw [(zero_not h).2.2.2]
  split <;> rfl
theorem nz_fzs {a : Nat} (h : zeroB a = false) : fzs a ≠ 0 := by
  have h0 : fmag a ≠ 0 := of_decide_eq_false h
  have h2 : fz a ≠ 0 := fun h => h0 ((fz_zero a).1 h)
  unfold fzs
  split <;> omega

theorem pow_low_ne : (2 : Int) ^ low74 ≠ 0 := Int.ne_of_gt (Int.pow_pos (by omega))
/-- a sum of finite floats -/
theorem add_fin {a b : Nat} (mode : Int) (ha : finB a = true) (hb : finB b = true) (hbl : b < 18446744073709551616) :
    (fzs a + fzs b = 0 → fmag (faddF a b mode) = 0) ∧ (fzs a + fzs b ≠ 0 → faddF a b mode = rnd (fzs a + fzs b) (-1074) mode) := by
  obtain ⟨a1, a2⟩ := fin_not ha
  obtain ⟨b1, b2⟩ := fin_not hb
  unfold faddF
  rw [add_form, a1, a2, b1, b2]
  simp only [Bool.or_false, Bool.false_and, Bool.false_or, Bool.false_eq_true, if_false]
  cases hza : zeroB a
  · simp only [Bool.false_and, Bool.false_eq_true, if_false]
    rw [sgi_mul, sgi_mul, ← Int.add_mul, ← fzs_sgi, ← fzs_sgi]
    unfold rsum
    constructor
    · intro h
      rw [h, if_pos (Int.zero_mul _)]
      exact (cancel_num mode).2.2
    · intro h
      rw [if_neg (Int.mul_ne_zero h pow_low_ne), show (-2148 : Int) = -1074 - (low74 : Nat) from rfl, rnd_up h]
  · cases hzb : zeroB b
    · simp only [Bool.true_and, Bool.false_and, Bool.false_eq_true, if_false, if_true]
      rw [zero_fzs hza, Int.zero_add]
      exact ⟨fun h => absurd h (nz_fzs hzb), fun _ => (fz_self hb hzb hbl mode).symm⟩
    · rw [zero_fzs hza, zero_fzs hzb]
      refine ⟨fun _ => ?_, fun h => absurd rfl h⟩
      simp only [Bool.true_and, if_true]
      split
      · exact (cancel_num mode).2.2
      · exact (zero_not hzb).2.2.1
theorem add_rank {a b : Nat} (mode : Int) (ha : finB a = true) (hb : finB b = true) (hbl : b < 18446744073709551616) : frank (faddF a b mode) = frank (rz (fzs a + fzs b) (-1074) mode) := by
  obtain ⟨h1, h2⟩ := add_fin mode ha hb hbl
  unfold rz
  by_cases h : fzs a + fzs b = 0
  · rw [if_pos h, frank_zero (h1 h)]; decide
  · rw [if_neg h, h2 h]

theorem rank_inf {a : Nat} (ha : a < 18446744073709551616) (hi : infB a = true) : frank (9218868437227405312 + sgz (fneg a)) = frank a := by rw [inf_val ha hi]
theorem rank_le_inf {a : Nat} (hn : nanB a = false) : -9218868437227405312 ≤ frank a ∧ frank a ≤ 9218868437227405312 := by
  have := nanB_not hn
  unfold frank
  split <;> omega
theorem infB_rank {a : Nat} (hi : infB a = true) : frank a = (if fneg a then -9218868437227405312 else 9218868437227405312) := by
  have h : fmag a = 9218868437227405312 := of_decide_eq_true hi
  unfold frank
  rw [h]
  rfl
theorem fin_rank {a : Nat} (hf : finB a = true) : -9218868437227405312 < frank a ∧ frank a < 9218868437227405312 := by
  have h : fmag a < 9218868437227405312 := of_decide_eq_true hf
  unfold frank
  split <;> omega
theorem fin_or {a : Nat} (hn : nanB a = false) : finB a = true ∨ infB a = true := by
  have h1 := nanB_not hn
  unfold finB infB
  rw [decide_eq_true_iff, decide_eq_true_iff]
  omega
theorem fzs_mono {a b : Nat} (ha : nanB a = false) (hb : nanB b = false) (h : frank a ≤ frank b) : fzs a ≤ fzs b := by
  obtain ⟨h1, h2⟩ := fs_rank (T := 1074) ha hb
  rw [fs_fzs, fs_fzs] at h1 h2
  omega

/-- a sum with an infinity -/
theorem add_inf_left {a b : Nat} (mode : Int) (ha : a < 18446744073709551616) (hi : infB a = true) : nanB (faddF a b mode) = true ∨ frank (faddF a b mode) = frank a := by
  unfold faddF
  rw [add_form, hi, (inf_not hi).1]
  simp only [Bool.false_or, Bool.true_and, if_true]
  split
  · left; decide
  · split
    · left; decide
    · right; exact rank_inf ha hi
theorem add_inf_right {a b : Nat} (mode : Int) (hb : infB b = true) (ha : finB a = true) : frank (faddF a b mode) = frank b := by
  obtain ⟨a1, a2⟩ := fin_not ha
  obtain ⟨b1, b2⟩ := inf_not hb
  unfold faddF
  rw [add_form, hb, a1, a2, b1, b2]
  simp

/-- sums keep the order -/
theorem add_mono {f g h : Nat} (mode : Int) (hf : f < 18446744073709551616) (hg : g < 18446744073709551616) (hh : h < 18446744073709551616) (hfn : nanB f = false) (hgn : nanB g = false) (hle : frank f ≤ frank g)
    (h1 : nanB (faddF f h mode) = false) (h2 : nanB (faddF g h mode) = false) : frank (faddF f h mode) ≤ frank (faddF g h mode) := by
  cases hn : nanB h
  · rcases fin_or hfn with f1 | f1
    · rcases fin_or hgn with g1 | g1
      · rcases fin_or hn with k1 | k1
        · rw [add_rank mode f1 k1 hh, add_rank mode g1 k1 hh]
          have := fzs_mono hfn hgn hle
          refine rz_mono (T := 1074) (by omega) (by omega) (by omega) ?_ mode
          unfold vs
          simp
          omega
        · rw [add_inf_right mode k1 f1, add_inf_right mode k1 g1]
          exact Int.le_refl _
      · rcases add_inf_left (b := h) mode hg g1 with e | e
        · rw [e] at h2; cases h2
        · rw [e]
          have e2 := infB_rank g1
          have e3 := fin_rank f1
          have e4 := (rank_le_inf h1).2
          cases hs : fneg g
          · rw [hs] at e2; simp at e2; omega
          · rw [hs] at e2; simp at e2; omega
    · rcases add_inf_left (b := h) mode hf f1 with e | e
      · rw [e] at h1; cases h1
      · rw [e]
        have e2 := infB_rank f1
        have e4 := (rank_le_inf h2).1
        cases hs : fneg f
        · rw [hs] at e2; simp at e2
          rcases fin_or hgn with g1 | g1
          · have := fin_rank g1; omega
          · rcases add_inf_left (b := h) mode hg g1 with e5 | e5
            · rw [e5] at h2; cases h2
            · rw [e5]; exact hle
        · rw [hs] at e2; simp at e2; omega
  · exfalso
    unfold faddF at h1
    rw [add_form, hn] at h1
    simp only [Bool.or_true, if_true] at h1
    revert h1
    decide

end Go.Proofs.YtolghagbpnjpgaaDoor

namespace Go.Proofs.YtolghagbpnjpgaaDoor

/-- the multiples of 2^(k+1) around x, which is none of them -/
structure Around (x : Int) (p k : Nat) (q r : Int) : Prop where
  eq : x = q * 2 ^ (k + 1) + r
  pos : 0 < r
  lt : r < 2 ^ (k + 1)
  lo : -2 ^ p ≤ q
  hi : q + 1 ≤ 2 ^ p

theorem is_cmp {d d' : Dy} {S : Nat} {N M : Int} (h : Is d S N) (h' : Is d' S M) (hS : S ≤ 65536) : sgn3 (sc d) (sc d') = sgn3 N M := by
  rw [sc_is h hS, sc_is h' hS]
  exact sgn3_common
end Go.Proofs.YtolghagbpnjpgaaDoor

namespace Go.Proofs.YtolghagbpnjpgaaDoor
open Go.RowKit

/-- a float's number -/
def fdy (f : Nat) : Dy := if finB f then dmk (fzs f) (-1074) else none

theorem fz_bound {f : Nat} (h : finB f = true) : fz f < 2 ^ (52 + low46) := by
  rw [Nat.pow_add, ← fz_inf, ← fz_mag f]
  exact fz_lt (of_decide_eq_true h) (Nat.le_refl _)
theorem low46_le : 52 + low46 = 2098 := rfl
theorem fzs_abs (f : Nat) : (fzs f).natAbs = fz f := by unfold fzs; split <;> omega
theorem fdy_is {f : Nat} (h : finB f = true) : Is (fdy f) 1074 (fzs f) := by
  unfold fdy
  rw [h, if_pos rfl]
  exact Is.of_dmk (S := 1074) (B := 52 + low46) (by omega) (by rw [fzs_abs]; exact fz_bound h) (by rw [low46_le]; omega)

/-- two numbers of floats compare as the floats do -/
theorem fin_nan {f : Nat} (h : finB f = true) : nanB f = false := by
  have h1 : fmag f < 9218868437227405312 := of_decide_eq_true h
  exact decide_eq_false (by omega)
theorem fdy_rank {a b : Nat} (ha : finB a = true) (hb : finB b = true) : sgn3 (sc (fdy a)) (sc (fdy b)) = sgn3 (frank a) (frank b) := by
  rw [is_cmp (fdy_is ha) (fdy_is hb) (by omega), ← fs_fzs, ← fs_fzs]
  obtain ⟨h1, h2⟩ := fs_rank (T := 1074) (fin_nan ha) (fin_nan hb)
  unfold sgn3
  by_cases c1 : fs a 1074 < fs b 1074
  · rw [if_pos c1, if_pos (h1.1 c1)]
  · rw [if_neg c1, if_neg (fun h => c1 (h1.2 h))]
    by_cases c2 : fs a 1074 = fs b 1074
    · rw [if_neg (by omega), if_neg (by have := h2.1 c2; omega)]
    · have c3 : frank a ≠ frank b := fun h => c2 (h2.2 h)
      have c4 : ¬ frank a < frank b := fun h => c1 (h1.2 h)
      rw [if_pos (by omega), if_pos (by omega)]
theorem fdy_some {f : Nat} (h : finB f = true) : fdy f ≠ none := by
  obtain ⟨m, e, h1, _⟩ := fdy_is h
  rw [h1]; simp
end Go.Proofs.YtolghagbpnjpgaaDoor

namespace Go.Proofs.YtolghagbpnjpgaaDoor
open Go.RowKit

set_option maxRecDepth 100000 in
theorem refFin_any (f : Nat) (hf : f < 18446744073709551616) (b : Bool) (hb : finB f = b) (w : World) :
    Calls Tryd.prog 76 #[.int .u64 (f : Int)] w fun e w' => e = .returned (.bool b) ∧ w = w' := by
  have h1 : (f : Int) / 4503599627370496 = ((f / 4503599627370496 : Nat) : Int) := (Int.natCast_ediv _ _).symm
  have h2 := bits_and_u64_nat (f / 4503599627370496) 2047 (by omega) (by omega)
  rw [show (2047 : Nat) = 2 ^ 11 - 1 from rfl, Nat.and_two_pow_sub_one_eq_mod] at h2
  have h3 : (((f / 4503599627370496 % 2 ^ 11 : Nat) : Int) != 2047) = b := by
    rw [← hb]
    unfold finB fmag
    by_cases h : f % 9223372036854775808 < 9218868437227405312
    · rw [decide_eq_true h]; simp; omega
    · rw [decide_eq_false h]; simp; omega
  obtain ⟨q, hq⟩ : ∃ q : Nat, f / 4503599627370496 % 2 ^ 11 = q := ⟨_, rfl⟩
  rw [hq] at h2 h3
  have h2 : bits BinOp.and IntKind.u64 ((f / 4503599627370496 : Nat) : Int) 2047 = (q : Int) := h2
  rw [← h1] at h2
  clear hb hq h1
  cases b
  all_goals
    go_enter Tryd.func76, Tryd.ntmps76
    go_wp2
    go_ret
    exact ⟨ret_bool (by first | rfl | exact h3), rfl⟩
end Go.Proofs.YtolghagbpnjpgaaDoor

namespace Go.Proofs.YtolghagbpnjpgaaDoor
open Go.RowKit

/-- two limbs made by a literal -/
theorem slice_two (w : World) (lo hi : Int) (h0 : 0 ≤ lo ∧ lo < 4294967296) (h1 : 0 ≤ hi ∧ hi < 4294967296) :
    ∃ W, W = w.alloc (.cells #[.int .u32 lo, .int .u32 hi] 85) ∧ Ext w W ∧ Sl W (some ⟨w.heap.size, 0, none⟩) 2 2 [lo, hi] ∧ w.heap.size + 1 ≤ W.heap.size := by
  refine ⟨_, rfl, (Below.refl _ w).alloc (Nat.le_refl _) _, ?_, by simp⟩
  have hb : Blk (w.alloc (.cells #[.int .u32 lo, .int .u32 hi] 85)) w.heap.size [lo, hi] := by
    have := heap_alloc_new w (.cells #[.int .u32 lo, .int .u32 hi] 85)
    simpa [Blk] using this
  exact hb.sl (Wf.cons h0 (Wf.cons h1 Wf.nil)) rfl (by omega) (Nat.le_refl _)

theorem fdy_make {f S k : Nat} {E : Int} (hf : finB f = true) (hS : sig f = S) (hk : fsh f = k) (hE : E = -1074 + (k : Int)) : dmk (if fneg f then -(S : Int) else (S : Int)) E = fdy f := by
  unfold fdy
  rw [hf, if_pos rfl]
  have h1 : fzs f = (if fneg f then -(S : Int) else (S : Int)) * 2 ^ k := by
    unfold fzs fz
    rw [hS, hk, Int.natCast_mul, Int.natCast_pow]
    cases fneg f
    · rfl
    · simp only [if_true]; rw [Int.neg_mul]; rfl
  rw [h1, dmk_shift, hE]

theorem sgd_two {b : Bool} {S : Nat} : sgd b [(S : Int) % 4294967296, (S : Int) / 4294967296] = if b then -(S : Int) else (S : Int) := by
  unfold sgd
  rw [num_two]

set_option maxRecDepth 100000 in
set_option maxHeartbeats 4000000 in
theorem refOf_any (f : Nat) (hf : f < 18446744073709551616) (w : World) (hT : Table w) :
    Calls Tryd.prog 45 #[.int .u64 (f : Int)] w fun e w' => ∃ v, e = .returned v ∧ Dn w' v (fdy f) ∧ Ext w w' := by
  have HT := Lib.hid hT
  clear hT
  cases hfin : finB f with
  | false =>
    have CF := Lib.hid (refFin_any f hf false hfin)
    have HD := Lib.hid (show fdy f = none by unfold fdy; rw [hfin]; rfl)
    clear hfin hf
    go_enter Tryd.func45, Tryd.ntmps45
    go_upto_region 1 with fail
    obtain ⟨W, hW, hB, r1, hz⟩ := dbox_new w false false none 0 0 0
    rw [← hW]
    clear hW
    generalize hBe : w.heap.size = B at *
    have HBe := Lib.hid hBe
    clear hBe hz
    go_wp2_with fail
    refine (CF.out _).mono ?_
    rintro e w1 ⟨rfl, rfl⟩
    go_wp2_with fail
    refine (refBad_any _).mono ?_
    rintro e w1 ⟨rfl, hw1⟩
    have c1 := r1.below hw1
    obtain ⟨hB2, hB2'⟩ := bnext hB (Nat.le_of_lt r1.lt) hw1
    have q0 := c1.c0
    have q1 := c1.c1
    have q2 := c1.c2
    have q3 := c1.c3
    have f0 := c1.f 0
    have f1 := c1.f 1
    have f2 := c1.f 2
    have f3 := c1.f 3
    have hres := dn_stored c1 (dn_bad w1) w hB2 (Nat.le_refl _)
    have z3 := c1.stored true false none 0 0 0
    have z0 := z3.c0
    have z1 := z3.c1
    have z2 := z3.c2
    have z4 := z3.c3
    have HRES := Lib.hid hres; clear hres z3
    go_wp2
    refine bodyPost_ret (v := .agg #[.bool true, .bool false, .slice none 0 0, .int .i64 0]) (by simp [results, Tryd.results45, go_sem, z0, z1, z2, z4]) rfl ⟨_, rfl, ?_, ?_⟩
    · rw [HD.out]; exact HRES.out.1
    · show Below _ _ _; rw [HBe.out]; exact HRES.out.2
  | true =>
    have CF := Lib.hid (refFin_any f hf true hfin)
    obtain ⟨ng, hng⟩ : ∃ ng, fneg f = ng := ⟨_, rfl⟩
    have CM := Lib.hid (refMinus_any f hf ng hng)
    obtain ⟨h1, h2⟩ := and_fields f hf
    obtain ⟨q, hq⟩ : ∃ q : Nat, f / 4503599627370496 % 2048 = q := ⟨_, rfl⟩
    obtain ⟨r, hr⟩ : ∃ r : Nat, f % 4503599627370496 = r := ⟨_, rfl⟩
    obtain ⟨hm, hq', hr'⟩ := kind_fields hq hr
    rw [hq] at h1
    rw [hr] at h2
    have hfld : ffld f = q := by unfold ffld; rw [hm]; omega
    have hfr : fmag f % 4503599627370496 = r := by rw [hm]; omega
    by_cases c : q = 0
    · subst c
      have HDY := Lib.hid (fdy_make (f := f) (S := r) (k := 0) (E := -1074) hfin (by unfold sig; rw [if_pos hfld, hm]; omega) (by unfold fsh; rw [hfld]) (by omega))
      rw [hng] at HDY
      have hS0 : (r : Int) < 9007199254740992 := by omega
      clear hfld hfr hm hq hr hng hf hfin hq' hr'
      go_enter Tryd.func45, Tryd.ntmps45
      go_upto_region 1 with fail
      obtain ⟨W, hW, hB, r1, hz⟩ := dbox_new w false false none 0 0 0
      rw [← hW]
      clear hW
      have HT := Lib.hid (HT.out.below hB)
      generalize hBe : w.heap.size = B at *
      have HBe := Lib.hid hBe
      clear hBe hz
      go_wp2_with fail
      refine (CF.out _).mono ?_
      rintro e w1 ⟨rfl, rfl⟩
      go_wp2_with fail
      refine (CM.out _).mono ?_
      rintro e w1 ⟨rfl, rfl⟩
      go_wp2_with fail
      obtain ⟨V, hV, hE, hsl, hz⟩ := slice_two W ((r : Int) % 4294967296) ((r : Int) / 4294967296) (by omega) (by omega)
      rw [← hV]
      clear hV
      have hbg : Bg V ng (some ⟨W.heap.size, 0, none⟩) 2 2 (if ng then -(r : Int) else (r : Int)) := ⟨⟨_, hsl, sgd_two.symm⟩, by omega⟩
      have HT := Lib.hid (HT.out.below hE)
      have c1 := r1.below hE
      obtain ⟨hB2, hB2'⟩ := bnext hB (Nat.le_of_lt r1.lt) hE
      have hbl : blen (if ng then -(r : Int) else (r : Int)).natAbs ≤ 1000000 := by
        have h : (if ng then -(r : Int) else (r : Int)).natAbs < 2 ^ 53 := by cases ng <;> simp <;> omega
        exact Nat.le_trans (blen_le_of_lt h) (by omega)
      refine (refMake_any ng _ 2 2 _ (-1074) V hbg hbl (by omega) (by omega) HT.out).mono ?_
      rintro e w5 ⟨v, rfl, hr2, hw5⟩
      rw [HDY.out] at hr2
      have c1 := c1.below hw5
      obtain ⟨hB4, hB4'⟩ := bnext hB2 hB2' hw5
      obtain ⟨rb, rn, ro2, rk, rc, re, rfl⟩ := hr2.parts
      clear hbg hbl hsl hE hw5 hB2 hB r1 h1 h2
      have q0 := c1.c0
      have q1 := c1.c1
      have q2 := c1.c2
      have q3 := c1.c3
      have f0 := c1.f 0
      have f1 := c1.f 1
      have f2 := c1.f 2
      have f3 := c1.f 3
      have hres := dn_stored c1 hr2 w hB4 (Nat.le_refl _)
      have z3 := c1.stored rb rn ro2 rk rc re
      have z0 := z3.c0
      have z1 := z3.c1
      have z2 := z3.c2
      have z4 := z3.c3
      have HRES := Lib.hid hres; clear hres z3
      go_wp2
      refine bodyPost_ret (v := .agg #[.bool rb, .bool rn, .slice ro2 rk rc, .int .i64 re]) (by simp [results, Tryd.results45, go_sem, z0, z1, z2, z4]) rfl ⟨_, rfl, ?_, ?_⟩
      · exact HRES.out.1
      · show Below _ _ _; rw [HBe.out]; exact HRES.out.2
    · have hor := or_hidden hr'
      obtain ⟨S, hS⟩ : ∃ S : Nat, r + 4503599627370496 = S := ⟨_, rfl⟩
      rw [hS] at hor
      have HDY := Lib.hid (fdy_make (f := f) (S := S) (k := q - 1) (E := (q : Int) - 1075) hfin (by unfold sig; rw [if_neg (by rw [hfld]; exact c), hfr, hS]) (by unfold fsh; rw [hfld]) (by omega))
      rw [hng] at HDY
      have hS0 : (S : Int) < 9007199254740992 := by omega
      have hq0 : 0 < q := by omega
      have hq1 : q < 2048 := by omega
      clear hfld hfr hm hq hr hng hf hfin hq' hr' hS c
      go_enter Tryd.func45, Tryd.ntmps45
      go_upto_region 1 with fail
      obtain ⟨W, hW, hB, r1, hz⟩ := dbox_new w false false none 0 0 0
      rw [← hW]
      clear hW
      have HT := Lib.hid (HT.out.below hB)
      generalize hBe : w.heap.size = B at *
      have HBe := Lib.hid hBe
      clear hBe hz
      go_wp2_with fail
      refine (CF.out _).mono ?_
      rintro e w1 ⟨rfl, rfl⟩
      go_upto_region 4 with fail
      go_upto_region 5 with fail
      go_upto_region 6 with fail
      go_upto_region 7 with fail
      go_upto_region 8 with fail
      go_wp2_with fail
      refine (CM.out _).mono ?_
      rintro e w1 ⟨rfl, rfl⟩
      go_wp2_with fail
      obtain ⟨V, hV, hE, hsl, hz⟩ := slice_two W ((S : Int) % 4294967296) ((S : Int) / 4294967296) (by omega) (by omega)
      rw [← hV]
      clear hV
      have hbg : Bg V ng (some ⟨W.heap.size, 0, none⟩) 2 2 (if ng then -(S : Int) else (S : Int)) := ⟨⟨_, hsl, sgd_two.symm⟩, by omega⟩
      have HT := Lib.hid (HT.out.below hE)
      have c1 := r1.below hE
      obtain ⟨hB2, hB2'⟩ := bnext hB (Nat.le_of_lt r1.lt) hE
      have hbl : blen (if ng then -(S : Int) else (S : Int)).natAbs ≤ 1000000 := by
        have h : (if ng then -(S : Int) else (S : Int)).natAbs < 2 ^ 53 := by cases ng <;> simp <;> omega
        exact Nat.le_trans (blen_le_of_lt h) (by omega)
      refine (refMake_any ng _ 2 2 _ ((q : Int) - 1075) V hbg hbl (by omega) (by omega) HT.out).mono ?_
      rintro e w5 ⟨v, rfl, hr2, hw5⟩
      rw [HDY.out] at hr2
      have c1 := c1.below hw5
      obtain ⟨hB4, hB4'⟩ := bnext hB2 hB2' hw5
      obtain ⟨rb, rn, ro2, rk, rc, re, rfl⟩ := hr2.parts
      clear hbg hbl hsl hE hw5 hB2 hB r1 h1 h2
      have q0 := c1.c0
      have q1 := c1.c1
      have q2 := c1.c2
      have q3 := c1.c3
      have f0 := c1.f 0
      have f1 := c1.f 1
      have f2 := c1.f 2
      have f3 := c1.f 3
      have hres := dn_stored c1 hr2 w hB4 (Nat.le_refl _)
      have z3 := c1.stored rb rn ro2 rk rc re
      have z0 := z3.c0
      have z1 := z3.c1
      have z2 := z3.c2
      have z4 := z3.c3
      have HRES := Lib.hid hres; clear hres z3
      go_wp2
      refine bodyPost_ret (v := .agg #[.bool rb, .bool rn, .slice ro2 rk rc, .int .i64 re]) (by simp [results, Tryd.results45, go_sem, z0, z1, z2, z4]) rfl ⟨_, rfl, ?_, ?_⟩
      · exact HRES.out.1
      · show Below _ _ _; rw [HBe.out]; exact HRES.out.2
end Go.Proofs.YtolghagbpnjpgaaDoor
