import Derived.Test.YtekocoklfnojmaaDoorIUndoU24
import Derived.Deep.CutBlock
import Derived.Test.YtekocoklfnojmaaDoorIUndoU31
import Derived.Test.YtekocoklfnojmaaDoorIUndoU41
import Derived.Test.YtekocoklfnojmaaDoorIUndoU34
import Derived.Test.YtekocoklfnojmaaDoorIUndoU37
import Derived.Test.YtekocoklfnojmaaDoorIUndoU17
import Derived.Test.YtekocoklfnojmaaDoorIUndoU6
import Derived.Laws.AppendOwn
import Derived.OwnWalk
import Derived.Test.YtekocoklfnojmaaDoorIUndoU23
import Derived.Deep.QuietTactic
import Derived.BigQuiet
import Derived.Test.YtekocoklfnojmaaDoorIUndoU22
import Derived.Deep.RegionWith
import Derived.Deep.CutRange
import Derived.LoopTactic
import Derived.Deep.RegionHeld3
import Derived.Test.YtekocoklfnojmaaDoorIUndoU40
namespace Go.Proofs.YtekocoklfnojmaaDoor
open Go.RowKit

/-- a value, the dyad that it reads as, is it normalized -/
structure DEnt where
  v : Value
  d : Dy
  c : Bool

def DEnt.Ok (w : World) (p : DEnt) : Prop := Dg w p.v p.d ∧ (p.c = true → Dn w p.v p.d)

theorem DEnt.Ok.ext {w w' : World} {p : DEnt} (h : p.Ok w) (he : Ext w w') : p.Ok w' := ⟨h.1.ext he, fun e => (h.2 e).ext he⟩
/-- what is at hand -/
structure DSt (W w : World) (L : List DEnt) : Prop where
  ext : Ext W w
  tab : Table w
  bag : ∀ p ∈ L, p.Ok w

theorem DSt.step {W w w' : World} {L : List DEnt} (h : DSt W w L) (he : Ext w w') : DSt W w' L := ⟨h.ext.trans he, h.tab.below he, fun p hp => (h.bag p hp).ext he⟩
theorem DSt.drew {W w : World} {L : List DEnt} (h : DSt W w L) : DSt W w.drew L := h.step (Below.refl _ _).drew
theorem DSt.alloc {W w : World} {L : List DEnt} (h : DSt W w L) (o : Obj) : DSt W (w.alloc o) L := h.step ((Below.refl _ w).alloc (Nat.le_refl _) o)
theorem DSt.dn {W w : World} {L : List DEnt} {v : Value} {d : Dy} (h : DSt W w L) (h1 : ⟨v, d, true⟩ ∈ L) : Dn w v d := (h.bag _ h1).2 rfl

section
variable {W w : World} {L : List DEnt} {u v : Value} {d d' : Dy} {c c' : Bool}

end
end Go.Proofs.YtekocoklfnojmaaDoor

namespace Go.Proofs.YtekocoklfnojmaaDoor
open Go.RowKit

theorem fround_lo {r : Nat} {E : Int} {t : Bool} (h0 : 4611686018427387904 ≤ r) (h1 : r < 9223372036854775808) (hE0 : -100000 ≤ E) (hE1 : E ≤ 100000) (mode : Int) (w : World) :
    Calls Tryd.prog 51 #[.agg #[.int .u64 0, .int .u64 (r : Int), .int .i64 E, .bool t], .int .u64 0, .int .i64 mode] w fun x w' => x = .returned (.int .u64 ((fla false r E t mode : Nat) : Int)) ∧ Ext w w' :=
  fround_at 0 r E t false mode (by omega) (by omega) (by omega) (fun _ => by omega) (by omega) (by omega) (z := 0) rfl (fla false r E t mode) (by rw [Nat.zero_mul, Nat.zero_add, Nat.zero_add]) w

end Go.Proofs.YtekocoklfnojmaaDoor

namespace Go.Proofs.YtekocoklfnojmaaDoor
theorem tz_parts {f : Nat} (h0 : sig f ≠ 0) : sig f = sig f / 2 ^ tzf (sig f) * 2 ^ tzf (sig f) := by
  rcases tzf_isTz (sig f) with ⟨h, _⟩ | ⟨_, m, hm⟩
  · exact absurd h h0
  · have hp : 0 < 2 ^ tzf (sig f) := Nat.pow_pos (by omega)
    have hd : sig f / 2 ^ tzf (sig f) = 2 * m + 1 := by
      conv => lhs; lhs; rw [hm]
      exact Nat.mul_div_cancel_left _ hp
    rw [hd, Nat.mul_comm]
    exact hm
theorem sig_ne {f : Nat} (h : zeroB f = false) : sig f ≠ 0 := fun h1 => of_decide_eq_false h ((sig_zero f).1 h1)
theorem frounded_root {f r s hi lo : Nat} {E : Int} {mode : Int} (hf : finB f = true) (hz : zeroB f = false) (hn : fneg f = false) (R : RootOf (sig f) (-1074 + (fsh f : Int)) (sig f * 2 ^ s) hi lo r E s) :
    fla false r E (!decide (r * r = sig f * 2 ^ s)) mode = rootV (fdy f) mode := by
  have s0 := sig_ne hz
  obtain ⟨p, l, n⟩ := fdy_parts hf s0 (tzf_isTz _)
  have h := tz_parts s0
  have hr : r = isq (sig f * 2 ^ s) := isq_of R.r0 R.r1
  have h1 : 2 ^ 53 ≤ isq (sig f * 2 ^ s) := by rw [← hr]; exact Nat.le_trans (by decide) R.r2
  have hx := R.exp
  clear R
  subst hr
  rw [p, hn]
  generalize sig f / 2 ^ tzf (sig f) = A at *
  generalize tzf (sig f) = i at *
  generalize (-1074 + (fsh f : Int)) = e at *
  simp only [Bool.false_eq_true, if_false]
  unfold rootV
  dsimp only
  rw [if_neg (by omega), if_neg (by omega), Int.natAbs_natCast]
  obtain ⟨k1, k2⟩ := rootK_ok (A := A) (e := e + i)
  have h2 := root_long (neg := false) (mode := mode) h hx k2 h1 (big_53 (root_big n k1))
  rw [← h2]
  congr 1
  rw [← decide_not]
noncomputable def fsqrtF (f : Nat) (mode : Int) : Nat := if zeroB f || decide (f = 9218868437227405312) then f else if nanB f || fneg f then 9221120237041090560 else rootV (fdy f) mode
theorem fsqrtF_lt {f : Nat} (h : f < 18446744073709551616) (mode : Int) : fsqrtF f mode < 18446744073709551616 := by
  unfold fsqrtF
  split
  · exact h
  · split
    · omega
    · exact rootV_lt _ _
end Go.Proofs.YtekocoklfnojmaaDoor

namespace Go.Proofs.YtekocoklfnojmaaDoor
theorem rootV_encl {d : Dy} {N : Nat} (h : Is d (1074 + 1074) (N : Int)) :
    rootV d 1 < 9218868437227405312 ∧ fz (rootV d 1) * fz (rootV d 1) ≤ N ∧ rootV d 2 ≤ 9218868437227405312 ∧ (rootV d 2 < 9218868437227405312 → N ≤ fz (rootV d 2) * fz (rootV d 2)) := by
  obtain ⟨m, e, rfl, hnd, hS, hN⟩ := h
  have hp : (0 : Int) < 2 ^ (e + ((1074 + 1074 : Nat) : Int)).toNat := Int.pow_pos (by omega)
  have hm0 : ¬ m < 0 := by
    intro h
    have := Int.mul_neg_of_neg_of_pos h hp
    omega
  have hb := nd_blen hnd
  simp only [dm, dx, Option.getD_some] at hb
  obtain ⟨-, hb0, hb1⟩ := hb
  unfold rootV
  dsimp only
  rw [if_neg hm0, if_neg hm0]
  by_cases h0 : m = 0
  · rw [if_pos h0, if_pos h0]
    have hz : fz 0 = 0 := (fz_zero 0).2 (by decide)
    rw [hz]
    rw [h0, Int.zero_mul] at hN
    refine ⟨by omega, by omega, by omega, fun _ => by omega⟩
  · rw [if_neg h0, if_neg h0]
    obtain ⟨A, rfl⟩ := Int.eq_ofNat_of_zero_le (show 0 ≤ m by omega)
    rw [Int.natAbs_natCast]
    have hA : A ≠ 0 := by omega
    obtain ⟨p, hpp⟩ : ∃ p, (e + ((1074 + 1074 : Nat) : Int)).toNat = p := ⟨_, rfl⟩
    rw [hpp] at hN
    have hN2 : N = A * 2 ^ p := by
      have h1 : ((A * 2 ^ p : Nat) : Int) = (A : Int) * 2 ^ p := by rw [Int.natCast_mul, Int.natCast_pow]; rfl
      have h2 : (N : Int) = ((A * 2 ^ p : Nat) : Int) := by rw [h1]; exact hN
      omega
    subst hN2
    obtain ⟨k1, k2⟩ := rootK_ok (A := A) (e := e)
    have hKb : rootK A e ≤ 127 := by unfold rootK; omega
    have hbig := root_big hA k1
    generalize rootK A e = K at *
    obtain ⟨E, hE⟩ : ∃ E : Int, (e - (K : Int)) / 2 = E := ⟨_, rfl⟩
    have hE2 : 2 * E + (K : Int) = e := by omega
    rw [hE]
    have hs := isq_spec (A * 2 ^ K)
    obtain ⟨t, ht⟩ : ∃ t, decide (isq (A * 2 ^ K) * isq (A * 2 ^ K) ≠ A * 2 ^ K) = t := ⟨_, rfl⟩
    rw [ht]
    have htf : t = false → isq (A * 2 ^ K) * isq (A * 2 ^ K) = A * 2 ^ K := by
      intro h
      rw [h] at ht
      exact Decidable.not_not.1 (of_decide_eq_false ht)
    generalize isq (A * 2 ^ K) = r at *
    obtain ⟨h1, h2⟩ := hs
    obtain ⟨T, hT⟩ : ∃ T : Nat, T = 100000 := ⟨_, rfl⟩
    obtain ⟨q1, q2, q3⟩ := fla_trunc (Q := r) (e := E) t (T := T) (big_53 hbig) (by omega) (by omega)
    have hile : fla false r E t 2 ≤ 9218868437227405312 := fla_le _ _ _ _ _
    generalize fla false r E t 1 = lo at *
    generalize fla false r E t 2 = hi at *
    obtain ⟨c, hc⟩ : ∃ c : Nat, (c : Int) = E + T := ⟨(E + T).toNat, by omega⟩
    have hvv : ∀ x, vu x E T = x * 2 ^ c := fun x => by unfold vu; rw [show (E + (T : Int)).toNat = c by omega]
    rw [hvv] at q2 q3
    unfold fu at q2 q3
    obtain ⟨u, hu⟩ : ∃ u, T - 1074 = u := ⟨_, rfl⟩
    rw [hu] at q2 q3
    have hP : 0 < 2 ^ (u + u) := Nat.pow_pos (by omega)
    have sq : ∀ x k : Nat, x * x * 2 ^ (k + k) = x * 2 ^ k * (x * 2 ^ k) := by
      intro x k
      rw [Nat.pow_add, Nat.mul_mul_mul_comm]
    have eR : A * 2 ^ p * 2 ^ (u + u) = A * 2 ^ K * 2 ^ (c + c) := by
      rw [Nat.mul_assoc, Nat.mul_assoc, ← Nat.pow_add, ← Nat.pow_add]
      refine congrArg (fun x => A * 2 ^ x) ?_
      omega
    refine ⟨q1, ?_, hile, fun hf => ?_⟩
    · refine Nat.le_of_mul_le_mul_right ?_ hP
      rw [eR, sq]
      have g1 := Nat.mul_le_mul q2 q2
      rw [← sq r c] at g1
      exact Nat.le_trans g1 (Nat.mul_le_mul_right _ h1)
    · refine Nat.le_of_mul_le_mul_right ?_ hP
      rw [eR, sq]
      have k4 : (if t = true then r + 1 else r) * 2 ^ c ≤ fz hi * 2 ^ u := by
        rcases q3 with q3 | ⟨_, q3⟩
        · omega
        · exact q3
      have g1 := Nat.mul_le_mul k4 k4
      rw [← sq _ c] at g1
      refine Nat.le_trans (Nat.mul_le_mul_right _ ?_) g1
      cases t with
      | true => simp only [if_true]; omega
      | false => have := htf rfl; simp only [Bool.false_eq_true, if_false]; omega
end Go.Proofs.YtekocoklfnojmaaDoor
