import Derived.Test.YtekocoklfnojmaaGreatDoorIMiddleU20
import Derived.Test.YtekocoklfnojmaaGreatDoorIMiddleU0
import Derived.Test.YtekocoklfnojmaaGreatDoorIMiddleU18
import Derived.Test.YtekocoklfnojmaaGreatDoorIMiddleU11
import Derived.Test.YtekocoklfnojmaaGreatDoorIMiddleU10
import Derived.Test.YtekocoklfnojmaaGreatDoorIMiddleU6
import Derived.Test.YtekocoklfnojmaaGreatDoorIMiddleU8
import Derived.Deep.RegionHeld3
import Derived.Test.YtekocoklfnojmaaGreatDoorIMiddleU2
namespace Go.Proofs.YtekocoklfnojmaaGreatDoor

theorem fzs_sgi (f : Nat) : fzs f = sgi (fneg f) (fz f) := rfl
theorem fs_fzs (f : Nat) : fs f 1074 = fzs f := by
  unfold fs fzs fu
  rw [fz_mag]
  simp
theorem sgi_mul (s : Bool) (A k : Nat) : sgi s (A * 2 ^ k) = sgi s A * 2 ^ k := by
  unfold sgi
  have : ((A * 2 ^ k : Nat) : Int) = (A : Int) * 2 ^ k := by rw [Int.natCast_mul, Int.natCast_pow]; rfl
  cases s
  · simp only [Bool.false_eq_true, if_false]; exact this
  · simp only [if_true]; rw [this, Int.neg_mul]
theorem rnd_up {S : Int} (h : S ≠ 0) (k : Nat) (e mode : Int) : rnd (S * 2 ^ k) (e - k) mode = rnd S e mode := by
  have hp : (0 : Int) < 2 ^ k := Int.pow_pos (by omega)
  have e1 : decide (S * 2 ^ k < 0) = decide (S < 0) := by
    refine decide_eq_decide.2 ⟨fun h1 => ?_, fun h1 => Int.mul_neg_of_neg_of_pos h1 hp⟩
    rcases Int.lt_or_le S 0 with h2 | h2
    · exact h2
    · exact absurd (Int.mul_nonneg h2 (Int.le_of_lt hp)) (by omega)
  have e2 : (S * 2 ^ k).natAbs = S.natAbs * 2 ^ k := by rw [Int.natAbs_mul, Int.natAbs_pow]; rfl
  rw [rnd_sgz, rnd_sgz, e1, e2]
  congr 1
  exact fla_eq _ (a := 0) (b := k) mode (Nat.mul_ne_zero (by omega) (Nat.pos_iff_ne_zero.1 (Nat.pow_pos (by omega)))) (by rw [Nat.pow_zero, Nat.mul_one]) (by omega)
theorem fz_self {b : Nat} (hb : finB b = true) (hz : zeroB b = false) (hl : b < 18446744073709551616) (mode : Int) : rnd (fzs b) (-1074) mode = b := by
  have h0 : fmag b ≠ 0 := of_decide_eq_false hz
  have h1 : fmag b < 9218868437227405312 := of_decide_eq_true hb
  have h2 : fz b ≠ 0 := fun h => h0 ((fz_zero b).1 h)
  have hp := f_parts hl
  rw [fzs_sgi, rnd_sgi _ h2, fla_fz _ h0 h1]
  exact hp.symm
theorem zero_fzs {a : Nat} (h : zeroB a = true) : fzs a = 0 := by
  unfold fzs
  rw [(zero_not h).2.2.2]
  split <;> rfl
theorem nz_fzs {a : Nat} (h : zeroB a = false) : fzs a ≠ 0 := by
  have h0 : fmag a ≠ 0 := of_decide_eq_false h
  have h2 : fz a ≠ 0 := fun h => h0 ((fz_zero a).1 h)
  unfold fzs
  split <;> omega

theorem pow_low_ne : (2 : Int) ^ low74 ≠ 0 := Int.ne_of_gt (Int.pow_pos (by omega))
/-- a sum of finite floats -/
theorem add_fin {a b : Nat} (mode : Int) (ha : finB a = true) (hb : finB b = true) (hbl : b < 18446744073709551616) :
    (fzs a + fzs b = 0 → fmag (faddF a b mode) = 0) ∧ (fzs a + fzs b ≠ 0 → faddF a b mode = rnd (fzs a + fzs b) (-1074) mode) := by
  obtain ⟨a1, a2⟩ := fin_not ha
  obtain ⟨b1, b2⟩ := fin_not hb
  unfold faddF
  rw [add_form, a1, a2, b1, b2]
  simp only [Bool.or_false, Bool.false_and, Bool.false_or, Bool.false_eq_true, if_false]
  cases hza : zeroB a
  · simp only [Bool.false_and, Bool.false_eq_true, if_false]
    rw [sgi_mul, sgi_mul, ← Int.add_mul, ← fzs_sgi, ← fzs_sgi]
    unfold rsum
    constructor
    · intro h
      rw [h, if_pos (Int.zero_mul _)]
      exact (cancel_num mode).2.2
    · intro h
      rw [if_neg (Int.mul_ne_zero h pow_low_ne), show (-2148 : Int) = -1074 - (low74 : Nat) from rfl, rnd_up h]
  · cases hzb : zeroB b
    · simp only [Bool.true_and, Bool.false_and, Bool.false_eq_true, if_false, if_true]
      rw [zero_fzs hza, Int.zero_add]
      exact ⟨fun h => absurd h (nz_fzs hzb), fun _ => (fz_self hb hzb hbl mode).symm⟩
    · rw [zero_fzs hza, zero_fzs hzb]
      refine ⟨fun _ => ?_, fun h => absurd rfl h⟩
      simp only [Bool.true_and, if_true]
      split
      · exact (cancel_num mode).2.2
      · exact (zero_not hzb).2.2.1
theorem infB_rank {a : Nat} (hi : infB a = true) : frank a = (if fneg a then -9218868437227405312 else 9218868437227405312) := by
  have h : fmag a = 9218868437227405312 := of_decide_eq_true hi
  unfold frank
  rw [h]
  rfl
theorem fin_or {a : Nat} (hn : nanB a = false) : finB a = true ∨ infB a = true := by
  have h1 := nanB_not hn
  unfold finB infB
  rw [decide_eq_true_iff, decide_eq_true_iff]
  omega
theorem fneg_fzs {a : Nat} (ha : a < 18446744073709551616) (hf : finB a = true) : fzs (fnegF a) = -fzs a ∧ finB (fnegF a) = true := by
  obtain ⟨n1, n2, n3, n4, n5, -, -, n8⟩ := neg_facts ha (fin_not hf).1
  constructor
  · rw [fzs_sgi, fzs_sgi, n4, n5, sgi_not]
  · unfold finB at hf ⊢; rw [n8]; exact hf

end Go.Proofs.YtekocoklfnojmaaGreatDoor

namespace Go.Proofs.YtekocoklfnojmaaGreatDoor
open Go.RowKit

theorem blen_spec {a : Nat} (h : a ≠ 0) : ∃ l, blen a = l + 1 ∧ 2 ^ l ≤ a ∧ a < 2 ^ (l + 1) := by
  refine ⟨Nat.log2 a, by unfold blen; rw [if_neg h], Nat.log2_self_le h, Nat.lt_log2_self⟩

theorem blen_limbs {a e : Nat} (h : a < 4294967296 ^ e) : blen a ≤ 32 * e := by
  rw [show 4294967296 ^ e = 2 ^ (32 * e) by rw [Nat.pow_mul]] at h
  by_cases h0 : a = 0
  · unfold blen; rw [if_pos h0]; omega
  · have h1 : blen a = Nat.log2 a + 1 := by unfold blen; rw [if_neg h0]
    have h2 := (Nat.log2_lt h0).2 h
    omega

theorem pow_limbs {k e : Nat} (h : k ≤ 32 * e) : 2 ^ k ≤ 4294967296 ^ e := by
  rw [show 4294967296 ^ e = 2 ^ (32 * e) by rw [Nat.pow_mul]]
  exact Nat.pow_le_pow_right (by omega) h

end Go.Proofs.YtekocoklfnojmaaGreatDoor

namespace Go.Proofs.YtekocoklfnojmaaGreatDoor

/-- how often 2 divides a, 0 for zero -/
def tzf (a : Nat) : Nat := if h : a = 0 ∨ a % 2 = 1 then 0 else tzf (a / 2) + 1
termination_by a
decreasing_by omega

theorem tzf_isTz (a : Nat) : IsTz a (tzf a) := by
  induction a using Nat.strongRecOn with
  | _ a ih =>
    rw [tzf]
    by_cases h0 : a = 0
    · rw [dif_pos (Or.inl h0)]; exact Or.inl ⟨h0, rfl⟩
    · by_cases h1 : a % 2 = 1
      · rw [dif_pos (Or.inr h1)]; exact Or.inr ⟨h0, a / 2, by rw [Nat.pow_zero]; omega⟩
      · rw [dif_neg (by omega)]
        rcases ih (a / 2) (by omega) with ⟨h2, _⟩ | ⟨_, m, hm⟩
        · omega
        · refine Or.inr ⟨h0, m, ?_⟩
          rw [Nat.pow_succ, Nat.mul_assoc, Nat.mul_left_comm, ← hm]; omega

theorem tzf_of {a t : Nat} (h : IsTz a t) : t = tzf a := h.unique (tzf_isTz a)
theorem tzf_zero : tzf 0 = 0 := by rw [tzf]; simp
theorem tzf_odd {a : Nat} (h : a % 2 = 1) : tzf a = 0 := by rw [tzf]; simp [h]
theorem tzf_mul {a : Nat} (h : a ≠ 0) (k : Nat) : tzf (a * 2 ^ k) = tzf a + k := ((tzf_of ((tzf_isTz a).mul h k))).symm

theorem two_pos (k : Nat) : (0 : Int) < 2 ^ k := Int.pow_pos (by omega)
theorem natAbs_shift (x : Int) (k : Nat) : (x * 2 ^ k).natAbs = x.natAbs * 2 ^ k := by rw [Int.natAbs_mul, Int.natAbs_pow]; rfl
theorem mul_two_ne {x : Int} (h : x ≠ 0) (k : Nat) : x * 2 ^ k ≠ 0 := Int.mul_ne_zero h (Int.ne_of_gt (two_pos k))

/-- the odd part -/
theorem odd_part {x : Int} (h : x ≠ 0) : ∃ m, x = m * 2 ^ tzf x.natAbs ∧ m.natAbs % 2 = 1 ∧ x / 2 ^ tzf x.natAbs = m := by
  rcases tzf_isTz x.natAbs with ⟨h0, _⟩ | ⟨_, q, hq⟩
  · omega
  · generalize tzf x.natAbs = t at *
    have hp := two_pos t
    rcases Int.lt_or_gt_of_ne h with hx | hx
    · have e : x = (-(2 * (q : Int) + 1)) * 2 ^ t := by
        have : x = -(x.natAbs : Int) := by omega
        rw [this, hq]; push_cast; rw [Int.neg_mul, Int.mul_comm]
      exact ⟨_, e, by omega, by rw [e, Int.mul_ediv_cancel _ (Int.ne_of_gt hp)]⟩
    · have e : x = (2 * (q : Int) + 1) * 2 ^ t := by
        have : x = (x.natAbs : Int) := by omega
        rw [this, hq]; push_cast; rw [Int.mul_comm]
      exact ⟨_, e, by omega, by rw [e, Int.mul_ediv_cancel _ (Int.ne_of_gt hp)]⟩

/-- a dyad: none if it is not representable, otherwise the odd integer and the exponent (or two zeros) -/
abbrev Dy := Option (Int × Int)

/-- x times 2 to the power e, normalized -/
def dmk (x e : Int) : Dy :=
  if x = 0 then some (0, 0) else
  if e < -65536 - (tzf x.natAbs : Int) ∨ 65536 - (blen x.natAbs : Int) < e then none else some (x / 2 ^ tzf x.natAbs, e + tzf x.natAbs)

theorem dmk_zero (e : Int) : dmk 0 e = some (0, 0) := by simp [dmk]
theorem dmk_shift (x e : Int) (k : Nat) : dmk (x * 2 ^ k) e = dmk x (e + k) := by
  by_cases h : x = 0
  · subst h; simp [dmk]
  · have hn : x.natAbs ≠ 0 := by omega
    unfold dmk
    rw [if_neg h, if_neg (mul_two_ne h k), natAbs_shift, tzf_mul hn, blen_mul hn]
    have e1 : x * 2 ^ k / 2 ^ (tzf x.natAbs + k) = x / 2 ^ tzf x.natAbs := by
      rw [Int.pow_add, Int.mul_ediv_mul_of_pos_left _ _ (two_pos k)]
    rw [e1]
    by_cases hc : e < -65536 - ((tzf x.natAbs + k : Nat) : Int) ∨ 65536 - ((blen x.natAbs + k : Nat) : Int) < e
    · rw [if_pos hc, if_pos (by omega)]
    · rw [if_neg hc, if_neg (by omega)]
      congr 2; omega

/-- in normalized form -/
def Nd : Dy → Prop
  | none => True
  | some (m, e) => (m = 0 ∧ e = 0) ∨ (m.natAbs % 2 = 1 ∧ -65536 ≤ e ∧ e + blen m.natAbs ≤ 65536)

theorem dmk_nd (x e : Int) : Nd (dmk x e) := by
  unfold dmk
  by_cases h : x = 0
  · rw [if_pos h]; exact Or.inl ⟨rfl, rfl⟩
  · rw [if_neg h]
    split
    · trivial
    · rename_i hc
      obtain ⟨m, h1, h2, h3⟩ := odd_part h
      refine Or.inr ?_
      rw [h3]
      have hb : blen x.natAbs = blen m.natAbs + tzf x.natAbs := by
        conv => lhs; rw [h1]
        rw [natAbs_shift, blen_mul (by omega)]
      refine ⟨h2, by omega, by omega⟩

theorem dmk_norm {m e : Int} (h : Nd (some (m, e))) : dmk m e = some (m, e) := by
  rcases h with ⟨rfl, rfl⟩ | ⟨h1, h2, h3⟩
  · exact dmk_zero 0
  · unfold dmk
    rw [if_neg (by omega), tzf_odd h1, if_neg (by omega)]
    simp

/-- the integer in units of 2^-65536; not for none -/
def sc : Dy → Int
  | none => 0
  | some (m, e) => m * 2 ^ (e + 65536).toNat

/-- the sum, the product, the opposite -/
def dadd : Dy → Dy → Dy
  | some p, some q => dmk (sc (some p) + sc (some q)) (-65536)
  | _, _ => none
def dmul : Dy → Dy → Dy
  | some p, some q => dmk (p.1 * q.1) (p.2 + q.2)
  | _, _ => none
def dneg : Dy → Dy
  | some p => some (-p.1, p.2)
  | none => none
theorem dneg_nd {d : Dy} (h : Nd d) : Nd (dneg d) := by
  cases d with
  | none => trivial
  | some p =>
    rcases h with ⟨h1, h2⟩ | ⟨h1, h2, h3⟩
    · exact Or.inl ⟨by simp [h1], h2⟩
    · exact Or.inr ⟨by simpa using h1, h2, by simpa using h3⟩
/-- d is valid, and N in units of 2^-S -/
def Is (d : Dy) (S : Nat) (N : Int) : Prop := ∃ m e, d = some (m, e) ∧ Nd d ∧ 0 ≤ e + S ∧ N = m * 2 ^ (e + S).toNat

theorem Is.nd {d : Dy} {S : Nat} {N : Int} (h : Is d S N) : Nd d := by obtain ⟨_, _, _, h, _⟩ := h; exact h
theorem Is.mk {d : Dy} {S : Nat} {N : Int} (h : Is d S N) : d = dmk N (-S) := by
  obtain ⟨m, e, rfl, h1, h2, rfl⟩ := h
  rw [dmk_shift, show (-(S : Int)) + (e + S).toNat = e by omega, dmk_norm h1]
theorem Is.unique {d d' : Dy} {S : Nat} {N : Int} (h : Is d S N) (h' : Is d' S N) : d = d' := by rw [h.mk, h'.mk]
theorem blen_le_of_lt {a k : Nat} (h : a < 2 ^ k) : blen a ≤ k := by
  by_cases h0 : a = 0
  · subst h0; simp [blen]
  · obtain ⟨l, h1, h2, _⟩ := blen_spec h0
    rw [h1]
    have : 2 ^ l < 2 ^ k := by omega
    exact (Nat.pow_lt_pow_iff_right (by omega)).1 this

/-- what is far from the limits is representable -/
theorem Is.of_dmk {N : Int} {S B : Nat} (hS : S ≤ 65536) (hN : N.natAbs < 2 ^ B) (hB : B ≤ 65536) : Is (dmk N (-S)) S N := by
  by_cases h : N = 0
  · subst h; rw [dmk_zero]; exact ⟨0, 0, rfl, Or.inl ⟨rfl, rfl⟩, by omega, by simp⟩
  · have hb := blen_le_of_lt hN
    have hnd := dmk_nd N (-S)
    obtain ⟨m, h1, h2, h3⟩ := odd_part h
    have e : dmk N (-(S : Int)) = some (m, -(S : Int) + (tzf N.natAbs : Int)) := by
      unfold dmk
      rw [if_neg h, if_neg (by omega), h3]
    rw [e] at hnd ⊢
    refine ⟨_, _, rfl, hnd, by omega, ?_⟩
    rw [show (-(S : Int) + (tzf N.natAbs : Int) + S).toNat = tzf N.natAbs by omega]
    exact h1

theorem sc_is {d : Dy} {S : Nat} {N : Int} (h : Is d S N) (hS : S ≤ 65536) : sc d = N * 2 ^ (65536 - S) := by
  obtain ⟨m, e, rfl, h1, h2, rfl⟩ := h
  unfold sc
  simp only
  rw [show (e + 65536).toNat = (e + S).toNat + (65536 - S) by omega, Int.pow_add, Int.mul_assoc]

theorem Is.add {d d' : Dy} {S : Nat} {N M : Int} (h : Is d S N) (h' : Is d' S M) (hS : S ≤ 65536) {B : Nat} (hb : (N + M).natAbs < 2 ^ B) (hB : B ≤ 65536) : Is (dadd d d') S (N + M) := by
  have e : dadd d d' = dmk (N + M) (-S) := by
    have a := sc_is h hS
    have b := sc_is h' hS
    obtain ⟨m, x, rfl, _⟩ := h
    obtain ⟨n, y, rfl, _⟩ := h'
    show dmk (sc _ + sc _) _ = _
    rw [a, b, ← Int.add_mul, dmk_shift]
    congr 1; omega
  rw [e]
  exact Is.of_dmk hS hb hB

theorem Is.neg {d : Dy} {S : Nat} {N : Int} (h : Is d S N) : Is (dneg d) S (-N) := by
  have hd := dneg_nd h.nd
  obtain ⟨m, e, rfl, h1, h2, rfl⟩ := h
  exact ⟨-m, e, rfl, hd, h2, by rw [Int.neg_mul]⟩
theorem Is.mul {d d' : Dy} {S T : Nat} {N M : Int} (h : Is d S N) (h' : Is d' T M) (hS : S + T ≤ 65536) {B : Nat} (hb : (N * M).natAbs < 2 ^ B) (hB : B ≤ 65536) : Is (dmul d d') (S + T) (N * M) := by
  have e : dmul d d' = dmk (N * M) (-((S + T : Nat) : Int)) := by
    obtain ⟨m, x, rfl, _, h2, rfl⟩ := h
    obtain ⟨n, y, rfl, _, h2', rfl⟩ := h'
    show dmk (m * n) (x + y) = _
    have : m * 2 ^ (x + S).toNat * (n * 2 ^ (y + T).toNat) = m * n * 2 ^ ((x + S).toNat + (y + T).toNat) := by
      rw [Int.pow_add, Int.mul_assoc, Int.mul_left_comm (2 ^ (x + S).toNat), ← Int.mul_assoc]
    rw [this, dmk_shift]
    congr 1; omega
  rw [e]
  exact Is.of_dmk hS hb hB

theorem Is.zero {d : Dy} {S : Nat} {N : Int} (h : Is d S N) : (∃ m e, d = some (m, e) ∧ (m = 0 ↔ N = 0) ∧ (m < 0 ↔ N < 0)) := by
  obtain ⟨m, e, rfl, h1, h2, rfl⟩ := h
  have hp := two_pos (e + S).toNat
  refine ⟨m, e, rfl, ⟨fun h => by rw [h, Int.zero_mul], fun h => ?_⟩, ⟨fun h => Int.mul_neg_of_neg_of_pos h hp, fun h => ?_⟩⟩
  · rcases Int.mul_eq_zero.1 h with h | h <;> omega
  · rcases Int.lt_or_le m 0 with h3 | h3
    · exact h3
    · have := Int.mul_nonneg h3 (Int.le_of_lt hp); omega
end Go.Proofs.YtekocoklfnojmaaGreatDoor

namespace Go.Proofs.YtekocoklfnojmaaGreatDoor
/-- d times 2 to the power n; a shift by 131072 leads out of the range -/
def dscale (d : Dy) (n : Int) : Dy := match d with
  | none => none
  | some (m, e) => dmk m (e + max (-131072) (min n 131072))

end Go.Proofs.YtekocoklfnojmaaGreatDoor
