import Derived.Test.YtekocoklfnojmaaDoorIUndoU30
import Derived.Test.YtekocoklfnojmaaDoorIUndoU24
import Derived.Deep.CutBlock
import Derived.Test.YtekocoklfnojmaaDoorIUndoU16
import Derived.Test.YtekocoklfnojmaaDoorIUndoU7
import Derived.Deep.RegionHeld3
import Derived.Test.YtekocoklfnojmaaDoorIUndoU6
import Derived.Laws.AppendOwn
import Derived.OwnWalk
import Derived.Deep.RegionLaw
import Derived.Deep.CutRange
import Derived.Test.YtekocoklfnojmaaDoorIUndoU18
import Derived.Test.YtekocoklfnojmaaDoorIUndoU22
import Derived.Test.YtekocoklfnojmaaDoorIUndoU20
namespace Go.Proofs.YtekocoklfnojmaaDoor

theorem fzs_sgi (f : Nat) : fzs f = sgi (fneg f) (fz f) := rfl
theorem fs_fzs (f : Nat) : fs f 1074 = fzs f := by
  unfold fs fzs fu
  rw [fz_mag]
  simp
theorem sgi_mul (s : Bool) (A k : Nat) : sgi s (A * 2 ^ k) = sgi s A * 2 ^ k := by
  unfold sgi
  have : ((A * 2 ^ k : Nat) : Int) = (A : Int) * 2 ^ k := by rw [Int.natCast_mul, Int.natCast_pow]; rfl
  cases s
  · simp only [Bool.false_eq_true, if_false]; exact this
  · simp only [if_true]; rw [this, Int.neg_mul]
theorem rnd_up {S : Int} (h : S ≠ 0) (k : Nat) (e mode : Int) : rnd (S * 2 ^ k) (e - k) mode = rnd S e mode := by
  have hp : (0 : Int) < 2 ^ k := Int.pow_pos (by omega)
  have e1 : decide (S * 2 ^ k < 0) = decide (S < 0) := by
    refine decide_eq_decide.2 ⟨fun h1 => ?_, fun h1 => Int.mul_neg_of_neg_of_pos h1 hp⟩
    rcases Int.lt_or_le S 0 with h2 | h2
    · exact h2
    · exact absurd (Int.mul_nonneg h2 (Int.le_of_lt hp)) (by omega)
  have e2 : (S * 2 ^ k).natAbs = S.natAbs * 2 ^ k := by rw [Int.natAbs_mul, Int.natAbs_pow]; rfl
  rw [rnd_sgz, rnd_sgz, e1, e2]
  congr 1
  exact fla_eq _ (a := 0) (b := k) mode (Nat.mul_ne_zero (by omega) (Nat.pos_iff_ne_zero.1 (Nat.pow_pos (by omega)))) (by rw [Nat.pow_zero, Nat.mul_one]) (by omega)
theorem fz_self {b : Nat} (hb : finB b = true) (hz : zeroB b = false) (hl : b < 18446744073709551616) (mode : Int) : rnd (fzs b) (-1074) mode = b := by
  have h0 : fmag b ≠ 0 := of_decide_eq_false hz
  have h1 : fmag b < 9218868437227405312 := of_decide_eq_true hb
  have h2 : fz b ≠ 0 := fun h => h0 ((fz_zero b).1 h)
  have hp := f_parts hl
  rw [fzs_sgi, rnd_sgi _ h2, fla_fz _ h0 h1]
  exact hp.symm
theorem zero_fzs {a : Nat} (h : zeroB a = true) : fzs a = 0 := by
  unfold fzs
  rw [(zero_not h).2.2.2]
  split <;> rfl
theorem nz_fzs {a : Nat} (h : zeroB a = false) : fzs a ≠ 0 := by
  have h0 : fmag a ≠ 0 := of_decide_eq_false h
  have h2 : fz a ≠ 0 := fun h => h0 ((fz_zero a).1 h)
  unfold fzs
  split <;> omega

theorem pow_low_ne : (2 : Int) ^ low74 ≠ 0 := Int.ne_of_gt (Int.pow_pos (by omega))
/-- a sum of finite floats -/
theorem add_fin {a b : Nat} (mode : Int) (ha : finB a = true) (hb : finB b = true) (hbl : b < 18446744073709551616) :
    (fzs a + fzs b = 0 → fmag (faddF a b mode) = 0) ∧ (fzs a + fzs b ≠ 0 → faddF a b mode = rnd (fzs a + fzs b) (-1074) mode) := by
  obtain ⟨a1, a2⟩ := fin_not ha
  obtain ⟨b1, b2⟩ := fin_not hb
  unfold faddF
  rw [add_form, a1, a2, b1, b2]
  simp only [Bool.or_false, Bool.false_and, Bool.false_or, Bool.false_eq_true, if_false]
  cases hza : zeroB a
  · simp only [Bool.false_and, Bool.false_eq_true, if_false]
    rw [sgi_mul, sgi_mul, ← Int.add_mul, ← fzs_sgi, ← fzs_sgi]
    unfold rsum
    constructor
    · intro h
      rw [h, if_pos (Int.zero_mul _)]
      exact (cancel_num mode).2.2
    · intro h
      rw [if_neg (Int.mul_ne_zero h pow_low_ne), show (-2148 : Int) = -1074 - (low74 : Nat) from rfl, rnd_up h]
  · cases hzb : zeroB b
    · simp only [Bool.true_and, Bool.false_and, Bool.false_eq_true, if_false, if_true]
      rw [zero_fzs hza, Int.zero_add]
      exact ⟨fun h => absurd h (nz_fzs hzb), fun _ => (fz_self hb hzb hbl mode).symm⟩
    · rw [zero_fzs hza, zero_fzs hzb]
      refine ⟨fun _ => ?_, fun h => absurd rfl h⟩
      simp only [Bool.true_and, if_true]
      split
      · exact (cancel_num mode).2.2
      · exact (zero_not hzb).2.2.1
theorem add_rank {a b : Nat} (mode : Int) (ha : finB a = true) (hb : finB b = true) (hbl : b < 18446744073709551616) : frank (faddF a b mode) = frank (rz (fzs a + fzs b) (-1074) mode) := by
  obtain ⟨h1, h2⟩ := add_fin mode ha hb hbl
  unfold rz
  by_cases h : fzs a + fzs b = 0
  · rw [if_pos h, frank_zero (h1 h)]; decide
  · rw [if_neg h, h2 h]

theorem rank_inf {a : Nat} (ha : a < 18446744073709551616) (hi : infB a = true) : frank (9218868437227405312 + sgz (fneg a)) = frank a := by rw [inf_val ha hi]
theorem rank_le_inf {a : Nat} (hn : nanB a = false) : -9218868437227405312 ≤ frank a ∧ frank a ≤ 9218868437227405312 := by
  have := nanB_not hn
  unfold frank
  split <;> omega
theorem infB_rank {a : Nat} (hi : infB a = true) : frank a = (if fneg a then -9218868437227405312 else 9218868437227405312) := by
  have h : fmag a = 9218868437227405312 := of_decide_eq_true hi
  unfold frank
  rw [h]
  rfl
theorem fin_rank {a : Nat} (hf : finB a = true) : -9218868437227405312 < frank a ∧ frank a < 9218868437227405312 := by
  have h : fmag a < 9218868437227405312 := of_decide_eq_true hf
  unfold frank
  split <;> omega
theorem fin_or {a : Nat} (hn : nanB a = false) : finB a = true ∨ infB a = true := by
  have h1 := nanB_not hn
  unfold finB infB
  rw [decide_eq_true_iff, decide_eq_true_iff]
  omega
theorem fzs_mono {a b : Nat} (ha : nanB a = false) (hb : nanB b = false) (h : frank a ≤ frank b) : fzs a ≤ fzs b := by
  obtain ⟨h1, h2⟩ := fs_rank (T := 1074) ha hb
  rw [fs_fzs, fs_fzs] at h1 h2
  omega

/-- a sum with an infinity -/
theorem add_inf_left {a b : Nat} (mode : Int) (ha : a < 18446744073709551616) (hi : infB a = true) : nanB (faddF a b mode) = true ∨ frank (faddF a b mode) = frank a := by
  unfold faddF
  rw [add_form, hi, (inf_not hi).1]
  simp only [Bool.false_or, Bool.true_and, if_true]
  split
  · left; decide
  · split
    · left; decide
    · right; exact rank_inf ha hi
theorem add_inf_right {a b : Nat} (mode : Int) (hb : infB b = true) (ha : finB a = true) : frank (faddF a b mode) = frank b := by
  obtain ⟨a1, a2⟩ := fin_not ha
  obtain ⟨b1, b2⟩ := inf_not hb
  unfold faddF
  rw [add_form, hb, a1, a2, b1, b2]
  simp

/-- sums keep the order -/
theorem add_mono {f g h : Nat} (mode : Int) (hf : f < 18446744073709551616) (hg : g < 18446744073709551616) (hh : h < 18446744073709551616) (hfn : nanB f = false) (hgn : nanB g = false) (hle : frank f ≤ frank g)
    (h1 : nanB (faddF f h mode) = false) (h2 : nanB (faddF g h mode) = false) : frank (faddF f h mode) ≤ frank (faddF g h mode) := by
  cases hn : nanB h
  · rcases fin_or hfn with f1 | f1
    · rcases fin_or hgn with g1 | g1
      · rcases fin_or hn with k1 | k1
        · rw [add_rank mode f1 k1 hh, add_rank mode g1 k1 hh]
          have := fzs_mono hfn hgn hle
          refine rz_mono (T := 1074) (by omega) (by omega) (by omega) ?_ mode
          unfold vs
          simp
          omega
        · rw [add_inf_right mode k1 f1, add_inf_right mode k1 g1]
          exact Int.le_refl _
      · rcases add_inf_left (b := h) mode hg g1 with e | e
        · rw [e] at h2; cases h2
        · rw [e]
          have e2 := infB_rank g1
          have e3 := fin_rank f1
          have e4 := (rank_le_inf h1).2
          cases hs : fneg g
          · rw [hs] at e2; simp at e2; omega
          · rw [hs] at e2; simp at e2; omega
    · rcases add_inf_left (b := h) mode hf f1 with e | e
      · rw [e] at h1; cases h1
      · rw [e]
        have e2 := infB_rank f1
        have e4 := (rank_le_inf h2).1
        cases hs : fneg f
        · rw [hs] at e2; simp at e2
          rcases fin_or hgn with g1 | g1
          · have := fin_rank g1; omega
          · rcases add_inf_left (b := h) mode hg g1 with e5 | e5
            · rw [e5] at h2; cases h2
            · rw [e5]; exact hle
        · rw [hs] at e2; simp at e2; omega
  · exfalso
    unfold faddF at h1
    rw [add_form, hn] at h1
    simp only [Bool.or_true, if_true] at h1
    revert h1
    decide

theorem fneg_fzs {a : Nat} (ha : a < 18446744073709551616) (hf : finB a = true) : fzs (fnegF a) = -fzs a ∧ finB (fnegF a) = true := by
  obtain ⟨n1, n2, n3, n4, n5, -, -, n8⟩ := neg_facts ha (fin_not hf).1
  constructor
  · rw [fzs_sgi, fzs_sgi, n4, n5, sgi_not]
  · unfold finB at hf ⊢; rw [n8]; exact hf

end Go.Proofs.YtekocoklfnojmaaDoor

namespace Go.Proofs.YtekocoklfnojmaaDoor

/-- the multiples of 2^(k+1) around x, which is none of them -/
structure Around (x : Int) (p k : Nat) (q r : Int) : Prop where
  eq : x = q * 2 ^ (k + 1) + r
  pos : 0 < r
  lt : r < 2 ^ (k + 1)
  lo : -2 ^ p ≤ q
  hi : q + 1 ≤ 2 ^ p

end Go.Proofs.YtekocoklfnojmaaDoor

namespace Go.Proofs.YtekocoklfnojmaaDoor
open Go.RowKit

/-- a float's number -/
def fdy (f : Nat) : Dy := if finB f then dmk (fzs f) (-1074) else none

/-- its parts -/
theorem fdy_parts {f t : Nat} (hf : finB f = true) (h0 : sig f ≠ 0) (ht : IsTz (sig f) t) : fdy f = some (if fneg f then -((sig f / 2 ^ t : Nat) : Int) else ((sig f / 2 ^ t : Nat) : Int), -1074 + (fsh f : Int) + t) ∧ sig f / 2 ^ t < 9007199254740992 ∧ sig f / 2 ^ t ≠ 0 := by
  rcases ht with ⟨h, _⟩ | ⟨_, m, hm⟩
  · exact absurd h h0
  · have hp : 0 < 2 ^ t := Nat.pow_pos (by omega)
    have hd : sig f / 2 ^ t = 2 * m + 1 := by rw [hm, Nat.mul_div_cancel_left _ hp]
    have hlt : sig f / 2 ^ t < 9007199254740992 := Nat.lt_of_le_of_lt (Nat.div_le_self _ _) (sig_lt f)
    refine ⟨?_, hlt, by omega⟩
    rw [hd] at hlt ⊢
    have hfin : fmag f < 9218868437227405312 := of_decide_eq_true hf
    have hsh : fsh f ≤ 2045 := by unfold fsh ffld; omega
    have ht52 : t < 53 := by
      have h1 : 2 ^ t < 2 ^ 53 := by
        have h2 : 2 ^ t ≤ sig f := by rw [hm]; exact Nat.le_mul_of_pos_right _ (by omega)
        exact Nat.lt_of_le_of_lt h2 (sig_lt f)
      exact (Nat.pow_lt_pow_iff_right (by omega)).1 h1
    have hz : fz f = (2 * m + 1) * 2 ^ (t + fsh f) := by rw [Nat.pow_add, ← Nat.mul_assoc, Nat.mul_comm (2 * m + 1), ← hm]; rfl
    have hc : ((fz f : Nat) : Int) = ((2 * m + 1 : Nat) : Int) * 2 ^ (t + fsh f) := by rw [hz, Int.natCast_mul, Int.natCast_pow]; rfl
    have hv : fzs f = (if fneg f then -((2 * m + 1 : Nat) : Int) else ((2 * m + 1 : Nat) : Int)) * 2 ^ (t + fsh f) := by
      unfold fzs
      rw [hc]
      cases fneg f
      · rfl
      · simp only [if_true]; rw [Int.neg_mul]
    have hb : blen (2 * m + 1) ≤ 53 := blen_le_of_lt (show 2 * m + 1 < 2 ^ 53 from hlt)
    unfold fdy
    rw [hf, if_pos rfl, hv, dmk_shift]
    rw [show (-1074 : Int) + ((t + fsh f : Nat) : Int) = -1074 + (fsh f : Int) + t by omega]
    refine dmk_norm (Or.inr ⟨?_, by omega, ?_⟩)
    · split <;> omega
    · have e1 : (if fneg f then -((2 * m + 1 : Nat) : Int) else ((2 * m + 1 : Nat) : Int)).natAbs = 2 * m + 1 := by split <;> omega
      rw [e1]
      omega

theorem fz_bound {f : Nat} (h : finB f = true) : fz f < 2 ^ (52 + low46) := by
  rw [Nat.pow_add, ← fz_inf, ← fz_mag f]
  exact fz_lt (of_decide_eq_true h) (Nat.le_refl _)
theorem low46_le : 52 + low46 = 2098 := rfl
theorem fzs_abs (f : Nat) : (fzs f).natAbs = fz f := by unfold fzs; split <;> omega
theorem fdy_is {f : Nat} (h : finB f = true) : Is (fdy f) 1074 (fzs f) := by
  unfold fdy
  rw [h, if_pos rfl]
  exact Is.of_dmk (S := 1074) (B := 52 + low46) (by omega) (by rw [fzs_abs]; exact fz_bound h) (by rw [low46_le]; omega)

/-- two numbers of floats compare as the floats do -/
theorem fin_nan {f : Nat} (h : finB f = true) : nanB f = false := by
  have h1 : fmag f < 9218868437227405312 := of_decide_eq_true h
  exact decide_eq_false (by omega)
end Go.Proofs.YtekocoklfnojmaaDoor

namespace Go.Proofs.YtekocoklfnojmaaDoor
open Go.RowKit

/-- a raw integer at hand: its value, its sign, its limbs -/
structure REnt where
  v : Value
  nb : Bool
  zs : List Int
def REnt.Ok (w : World) (p : REnt) : Prop := ∃ ao n ca, p.v = .agg #[.bool p.nb, .slice ao n ca] ∧ Sl w ao n ca p.zs
theorem REnt.Ok.ext {w w' : World} {p : REnt} (h : p.Ok w) (he : Ext w w') : p.Ok w' := by
  obtain ⟨ao, n, ca, h1, h2⟩ := h
  exact ⟨ao, n, ca, h1, h2.below he⟩
theorem REnt.Ok.only_box {w w' : World} {p : REnt} {g : Nat} {nb : Bool} {ao : Option Addr} {n ca : Nat} (h : p.Ok w) (hb : Box w g nb ao n ca) (ho : Only g w w') : p.Ok w' := by
  obtain ⟨ao, n, ca, h1, h2⟩ := h
  exact ⟨ao, n, ca, h1, h2.only_box hb ho⟩
theorem REnt.Ok.parts {w : World} {v : Value} {nb : Bool} {zs : List Int} (h : REnt.Ok w ⟨v, nb, zs⟩) : ∃ ao n ca, v = .agg #[.bool nb, .slice ao n ca] ∧ Sl w ao n ca zs := h
structure RSt (W w : World) (L : List REnt) : Prop where
  ext : Ext W w
  bag : ∀ p ∈ L, p.Ok w
theorem RSt.step {W w w' : World} {L : List REnt} (h : RSt W w L) (he : Ext w w') : RSt W w' L := ⟨h.ext.trans he, fun p hp => (h.bag p hp).ext he⟩
theorem RSt.drew {W w : World} {L : List REnt} (h : RSt W w L) : RSt W w.drew L := h.step (Below.refl _ _).drew
theorem RSt.alloc {W w : World} {L : List REnt} (h : RSt W w L) (o : Obj) : RSt W (w.alloc o) L := h.step ((Below.refl _ w).alloc (Nat.le_refl _) o)
theorem RSt.stored {W w : World} {L : List REnt} {g : Nat} {nb : Bool} {ao : Option Addr} {n ca : Nat} (h : RSt W w L) (hb : Box w g nb ao n ca) (hg : W.heap.size ≤ g) (mb : Bool) (bo : Option Addr) (m cb : Nat) :
    RSt W ((w.setCell ⟨g, 0, none⟩ (.bool mb)).setCell ⟨g, 1, none⟩ (.slice bo m cb)) L :=
  ⟨Below.trans h.ext ((only_set2 w g _ _).below hg), fun p hp => (h.bag p hp).only_box hb (only_set2 w g _ _)⟩

end Go.Proofs.YtekocoklfnojmaaDoor

namespace Go.Proofs.YtekocoklfnojmaaDoor
open Go.RowKit

set_option maxRecDepth 100000 in
set_option maxHeartbeats 2000000 in
theorem refValid_any (lo hi : Nat) (hl : lo < 18446744073709551616) (hh : hi < 18446744073709551616) (b : Bool) (hb : validF lo hi = b) (w : World) :
    Calls Tryd.prog 4 #[.agg #[.int .u64 (lo : Int), .int .u64 (hi : Int)]] w fun e w' => e = .returned (.bool b) ∧ Ext w w' := by
  obtain ⟨s, ok, hc⟩ := fcmp_some lo hi
  have C := Lib.hid (refFCmp_any lo hi hl hh s ok hc)
  have hv := valid_sgn hc
  rw [hb] at hv
  have e1 : decide (lo ≠ 9218868437227405312) = ((lo : Int) != 9218868437227405312) := by
    by_cases h : lo = 9218868437227405312
    · subst h; rfl
    · rw [decide_eq_true h]; simp; omega
  have e2 : decide (hi ≠ 18442240474082181120) = ((hi : Int) != 18442240474082181120) := by
    by_cases h : hi = 18442240474082181120
    · subst h; rfl
    · rw [decide_eq_true h]; simp; omega
  rw [e1, e2] at hv
  obtain ⟨p, hp⟩ : ∃ p, ((lo : Int) != 9218868437227405312) = p := ⟨_, rfl⟩
  obtain ⟨q, hq⟩ : ∃ q, ((hi : Int) != 18442240474082181120) = q := ⟨_, rfl⟩
  rw [hp, hq] at hv
  have HV := Lib.hid hv
  clear hv hc hl hh hb e1 e2
  go_enter Tryd.func4, Tryd.ntmps4
  go_wp2_with fail
  obtain ⟨W, hW, hB, hx, hsz⟩ := ibox_new w lo hi
  rw [← hW]
  clear hW
  have c0 := hx.c0
  have c1 := hx.c1
  have HB := Lib.hid hB
  generalize w.heap.size = B at hx c0 c1 ⊢
  clear hB hsz
  go_wp2_with fail
  refine (C.out _).mono ?_
  rintro r w1 ⟨rfl, hE⟩
  have hx := hx.below hE
  have EX := Lib.hid (HB.out.trans hE)
  clear c0 c1 hE
  have c0 := hx.c0
  have c1 := hx.c1
  cases ok with
  | false =>
    go_wp2
    go_ret
    exact ⟨ret_bool (by rw [← HV.out]; rfl), EX.out⟩
  | true =>
    by_cases hs : s ≤ 0
    · have HS := Lib.hid (show decide (s ≤ 0) = true from decide_eq_true hs)
      cases p with
      | false =>
        go_wp2
        go_ret
        exact ⟨ret_bool (by rw [← HV.out, HS.out]; rfl), EX.out⟩
      | true =>
        cases q with
        | false =>
          go_wp2
          go_ret
          exact ⟨ret_bool (by rw [← HV.out, HS.out]; rfl), EX.out⟩
        | true =>
          go_wp2
          go_ret
          exact ⟨ret_bool (by rw [← HV.out, HS.out]; rfl), EX.out⟩
    · have HS := Lib.hid (show decide (s ≤ 0) = false from decide_eq_false hs)
      go_wp2
      go_ret
      exact ⟨ret_bool (by rw [← HV.out, HS.out]; rfl), EX.out⟩

end Go.Proofs.YtekocoklfnojmaaDoor

namespace Go.Proofs.YtekocoklfnojmaaDoor
open Go.RowKit


/-- is zero an element of an interval? -/
def containsF (c d : Nat) : Bool := !lessF 0 c && !lessF d 0

set_option maxRecDepth 100000 in
set_option maxHeartbeats 2000000 in
theorem contains_any (c d : Nat) (hc : c < 18446744073709551616) (hd : d < 18446744073709551616) (w : World) :
    Calls Tryd.prog 31 #[.agg #[.int .u64 (c : Int), .int .u64 (d : Int)]] w fun e w' => e = .returned (.bool (containsF c d)) ∧ Ext w w' := by
  unfold containsF
  obtain ⟨p, hp⟩ : ∃ p, lessF 0 c = p := ⟨_, rfl⟩
  obtain ⟨q, hq⟩ : ∃ q, lessF d 0 = q := ⟨_, rfl⟩
  have C1 := Lib.hid (isLess_at 0 c (by decide) hc rfl rfl p hp)
  have C2 := Lib.hid (isLess_at d 0 hd (by decide) rfl rfl q hq)
  rw [hp, hq]
  clear hp hq hc hd
  go_enter Tryd.func31, Tryd.ntmps31
  go_wp2_with fail
  obtain ⟨W, hW, hB, hx, hsz⟩ := ibox_new w c d
  rw [← hW]
  clear hW
  have c0 := hx.c0
  have c1 := hx.c1
  have HB := Lib.hid hB
  generalize w.heap.size = B at hx c0 c1 ⊢
  clear hB hsz
  go_wp2_with fail
  refine (C1.out _).mono ?_
  rintro r w1 ⟨rfl, hE⟩
  have hx := hx.below hE
  have HB := Lib.hid (HB.out.trans hE)
  clear c0 c1 hE
  have c0 := hx.c0
  have c1 := hx.c1
  cases p with
  | true =>
    go_wp2
    go_ret
    exact ⟨rfl, HB.out⟩
  | false =>
    go_wp2_with fail
    refine (C2.out _).mono ?_
    rintro r w2 ⟨rfl, hE⟩
    have HB := Lib.hid (HB.out.trans hE)
    clear c0 c1 hE
    go_wp2
    go_ret
    exact ⟨rfl, HB.out⟩

set_option maxRecDepth 100000 in
set_option maxHeartbeats 8000000 in
theorem idiv_no (a b c d : Nat) (ha : a < 18446744073709551616) (hb : b < 18446744073709551616) (hc : c < 18446744073709551616) (hd : d < 18446744073709551616) (h : validF a b = false ∨ validF c d = false ∨ (containsF c d = true)) (w : World) :
    Calls Tryd.prog 13 #[.agg #[.int .u64 (a : Int), .int .u64 (b : Int)], .agg #[.int .u64 (c : Int), .int .u64 (d : Int)]] w fun e w' => e = .returned (.agg #[.int .u64 18442240474082181120, .int .u64 9218868437227405312]) ∧ Ext w w' := by
  obtain ⟨p, hp⟩ : ∃ p, validF a b = p := ⟨_, rfl⟩
  obtain ⟨q, hq⟩ : ∃ q, validF c d = q := ⟨_, rfl⟩
  rw [hp, hq] at h
  have C1 := Lib.hid (ivalid_at a b ha hb rfl rfl p hp)
  have C2 := Lib.hid (ivalid_at c d hc hd rfl rfl q hq)
  have C3 := Lib.hid (contains_any c d hc hd)
  clear hp hq ha hb hc hd
  go_enter Tryd.func13, Tryd.ntmps13
  go_wp2_with fail
  obtain ⟨W, hW, hB, hx, hy, hbx, hsz⟩ := ibox_three w a b c d 0 0
  rw [← hW]
  clear hW
  generalize hBe : w.heap.size = B at *
  have HBe := Lib.hid hBe
  have HB : Hid (Below B w W) := Lib.hid (by rw [← hBe]; exact hB)
  clear hBe hB hsz
  have c0 := hx.c0
  have c1 := hx.c1
  have c2 := hy.c0
  have c3 := hy.c1
  go_wp2_with fail
  refine (C1.out _).mono ?_
  rintro r w1 ⟨rfl, hE⟩
  have HB := Lib.hid (HB.out.trans (Below.mono hE (Nat.le_of_lt hx.lt)))
  have hx := hx.below hE
  have hy := hy.below hE
  have hbx := hbx.below hE
  clear c0 c1 c2 c3 hE
  have c0 := hx.c0
  have c1 := hx.c1
  have c2 := hy.c0
  have c3 := hy.c1
  cases p with
  | false =>
    go_wp2_with fail
    refine (whole_any _).mono ?_
    rintro r w9 ⟨rfl, hE⟩
    have hbx := hbx.below hE
    have HB := Lib.hid (HB.out.trans (Below.mono hE (Nat.le_of_lt hx.lt)))
    clear hE
    have q0 := hbx.c0
    have q1 := hbx.c1
    have f0 := hbx.f 0
    have f1 := hbx.f 1
    have z := hbx.stored 18442240474082181120 9218868437227405312
    have z0 := z.c0
    have z1 := z.c1
    have HZ := Lib.hid (HB.out.trans ((only_iset2 w9 (B + 1 + 1) (.int .u64 18442240474082181120) (.int .u64 9218868437227405312)).below (by omega)))
    clear z
    go_wp2
    refine bodyPost_ret (v := .agg #[.int .u64 18442240474082181120, .int .u64 9218868437227405312]) (by simp [results, Tryd.results13, go_sem, z0, z1]) rfl ⟨rfl, ?_⟩
    show Below _ _ _
    rw [HBe.out]
    exact HZ.out
  | true =>
    go_wp2_with fail
    refine (C2.out _).mono ?_
    rintro r w2 ⟨rfl, hE⟩
    have HB := Lib.hid (HB.out.trans (Below.mono hE (Nat.le_of_lt hx.lt)))
    have hx := hx.below hE
    have hy := hy.below hE
    have hbx := hbx.below hE
    clear c0 c1 c2 c3 hE
    have c0 := hx.c0
    have c1 := hx.c1
    have c2 := hy.c0
    have c3 := hy.c1
    cases q with
    | false =>
      go_wp2_with fail
      refine (whole_any _).mono ?_
      rintro r w9 ⟨rfl, hE⟩
      have hbx := hbx.below hE
      have HB := Lib.hid (HB.out.trans (Below.mono hE (Nat.le_of_lt hx.lt)))
      clear hE
      have q0 := hbx.c0
      have q1 := hbx.c1
      have f0 := hbx.f 0
      have f1 := hbx.f 1
      have z := hbx.stored 18442240474082181120 9218868437227405312
      have z0 := z.c0
      have z1 := z.c1
      have HZ := Lib.hid (HB.out.trans ((only_iset2 w9 (B + 1 + 1) (.int .u64 18442240474082181120) (.int .u64 9218868437227405312)).below (by omega)))
      clear z
      go_wp2
      refine bodyPost_ret (v := .agg #[.int .u64 18442240474082181120, .int .u64 9218868437227405312]) (by simp [results, Tryd.results13, go_sem, z0, z1]) rfl ⟨rfl, ?_⟩
      show Below _ _ _
      rw [HBe.out]
      exact HZ.out
    | true =>
      obtain h3 : containsF c d = true := by simpa using h
      rw [h3] at C3
      clear h h3
      go_wp2_with fail
      refine (C3.out _).mono ?_
      rintro r w3 ⟨rfl, hE⟩
      have HB := Lib.hid (HB.out.trans (Below.mono hE (Nat.le_of_lt hx.lt)))
      have hx := hx.below hE
      have hy := hy.below hE
      have hbx := hbx.below hE
      clear c0 c1 c2 c3 hE
      have c0 := hx.c0
      have c1 := hx.c1
      have c2 := hy.c0
      have c3 := hy.c1
      go_wp2_with fail
      refine (whole_any _).mono ?_
      rintro r w9 ⟨rfl, hE⟩
      have hbx := hbx.below hE
      have HB := Lib.hid (HB.out.trans (Below.mono hE (Nat.le_of_lt hx.lt)))
      clear hE
      have q0 := hbx.c0
      have q1 := hbx.c1
      have f0 := hbx.f 0
      have f1 := hbx.f 1
      have z := hbx.stored 18442240474082181120 9218868437227405312
      have z0 := z.c0
      have z1 := z.c1
      have HZ := Lib.hid (HB.out.trans ((only_iset2 w9 (B + 1 + 1) (.int .u64 18442240474082181120) (.int .u64 9218868437227405312)).below (by omega)))
      clear z
      go_wp2
      refine bodyPost_ret (v := .agg #[.int .u64 18442240474082181120, .int .u64 9218868437227405312]) (by simp [results, Tryd.results13, go_sem, z0, z1]) rfl ⟨rfl, ?_⟩
      show Below _ _ _
      rw [HBe.out]
      exact HZ.out

end Go.Proofs.YtekocoklfnojmaaDoor
