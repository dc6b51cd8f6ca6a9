import Derived.Test.YtapcecjbmcoliaaGreatDoorACauU8
import Derived.Test.YtapcecjbmcoliaaGreatDoorACauU17
import Derived.Test.YtapcecjbmcoliaaGreatDoorACauU18
import Derived.Test.YtapcecjbmcoliaaGreatDoorACauU19
import Derived.WalkKit
import Derived.WalkSmall
import Derived.Lib.Hide
import Derived.Test.YtapcecjbmcoliaaGreatDoorACauU9
import Derived.Test.YtapcecjbmcoliaaGreatDoorACauU13
import Derived.Test.YtapcecjbmcoliaaGreatDoorACauU0
import Derived.Test.YtapcecjbmcoliaaGreatDoorACauU11
import Derived.Test.YtapcecjbmcoliaaGreatDoorACauU10
import Derived.Test.YtapcecjbmcoliaaGreatDoorACauU5
import Derived.Test.YtapcecjbmcoliaaGreatDoorACauU2
namespace Go.Proofs.YtapcecjbmcoliaaGreatDoor
open Go.RowKit

theorem nanB_not {f : Nat} (h : nanB f = false) : fmag f ≤ 9218868437227405312 := by
  have := of_decide_eq_false h
  omega
end Go.Proofs.YtapcecjbmcoliaaGreatDoor

namespace Go.Proofs.YtapcecjbmcoliaaGreatDoor

theorem fmag_sgz (s : Bool) {f : Nat} (h : f < 9223372036854775808) : fmag (sgz s + f) = f ∧ fneg (sgz s + f) = s := by
  unfold fmag fneg sgz
  cases s
  · exact ⟨by simp; omega, by simp; omega⟩
  · exact ⟨by simp; omega, by simp⟩
end Go.Proofs.YtapcecjbmcoliaaGreatDoor

namespace Go.Proofs.YtapcecjbmcoliaaGreatDoor

/-- the value of a number with its sign -/
def vs (S : Int) (e : Int) (T : Nat) : Int := S * 2 ^ (e + T).toNat
/-- .. of a float -/
def fs (f T : Nat) : Int := if fneg f then -(fu (fmag f) T : Int) else (fu (fmag f) T : Int)

theorem rnd_sgz (S e mode : Int) : rnd S e mode = sgz (decide (S < 0)) + fla (decide (S < 0)) S.natAbs e false mode := rfl
theorem rnd_facts (S e mode : Int) : nanB (rnd S e mode) = false ∧ rnd S e mode < 18446744073709551616 ∧ fneg (rnd S e mode) = decide (S < 0) ∧ fmag (rnd S e mode) = fla (decide (S < 0)) S.natAbs e false mode := by
  have h := fla_le (decide (S < 0)) S.natAbs e false mode
  obtain ⟨h1, h2⟩ := fmag_sgz (decide (S < 0)) (show fla (decide (S < 0)) S.natAbs e false mode < 9223372036854775808 by omega)
  exact ⟨(nan_mag _ h).1, (nan_mag _ h).2, h2, h1⟩

/-- a dyad's number rounded: zero is +0 -/
def rz (S e mode : Int) : Nat := if S = 0 then 0 else rnd S e mode
theorem rz_facts (S e mode : Int) : nanB (rz S e mode) = false ∧ rz S e mode < 18446744073709551616 := by
  unfold rz
  split
  · decide
  · exact ⟨(rnd_facts S e mode).1, (rnd_facts S e mode).2.1⟩
/-- the floats' order is that of their values -/
theorem fs_rank {a b T : Nat} (ha : nanB a = false) (hb : nanB b = false) : (fs a T < fs b T ↔ frank a < frank b) ∧ (fs a T = fs b T ↔ frank a = frank b) := by
  have h1 := nanB_not ha
  have h2 := nanB_not hb
  have l1 := fu_lt_iff (T := T) h1 h2
  have l2 := fu_lt_iff (T := T) h2 h1
  have z1 := fu_lt_iff (T := T) (show 0 ≤ 9218868437227405312 by omega) h1
  have z2 := fu_lt_iff (T := T) (show 0 ≤ 9218868437227405312 by omega) h2
  rw [fu_zero] at z1 z2
  unfold fs frank
  constructor <;> cases fneg a <;> cases fneg b <;> simp <;> omega

/-- downward and upward: on both sides, the same or next to one another, and to nearest is one of them -/
structure Enc (S e : Int) (T lo hi near : Nat) : Prop where
  fl : finB lo = true → fs lo T ≤ vs S e T
  fh : finB hi = true → vs S e T ≤ fs hi T
  loi : finB lo = false → lo = 18442240474082181120
  hii : finB hi = false → hi = 9218868437227405312
  same : (finB lo = true ∧ fs lo T = vs S e T ∨ finB hi = true ∧ fs hi T = vs S e T) → lo = hi ∧ near = lo
  next : (finB lo = true → fs lo T ≠ vs S e T) → (finB hi = true → fs hi T ≠ vs S e T) → frank hi = frank lo + 1 ∧ (near = lo ∨ near = hi)

/-- a number that a float has room for is its own rounding -/
theorem fla_room {K j N : Nat} (hN : N = K * 2 ^ j) (h0 : N ≠ 0) (hK : K < 9007199254740992) (hT : N < fz 9218868437227405312) (neg : Bool) (mode : Int) :
    fla neg N (-1074) false mode < 9218868437227405312 ∧ fz (fla neg N (-1074) false mode) = N := by
  have hv : vu N (-1074) 1074 = N := by unfold vu; simp
  have hf : ∀ m, fu m 1074 = fz m := fun m => by unfold fu; simp
  rcases fla_spec h0 (-1074) (T := 1074) (by omega) (by omega) with ⟨l, h1, h2, h3⟩ | ⟨l, b, h⟩
  · rw [h2]
    rw [hf, hv] at h3
    exact ⟨h1, h3⟩
  · exfalso
    have h1 := h.lt
    have h2 := h.above
    have h3 := h.below
    rw [hf, hv] at h2
    rw [hf, hf, hv] at h3
    have h4 : N < fz (l + 1) := by
      rcases h3 with ⟨h3, h5⟩ | h3
      · omega
      · exact h3
    clear h3 h hf hv
    obtain ⟨q, k, hq, hk, hn, hm⟩ : ∃ q k, q ≤ 2045 ∧ k < 9007199254740992 ∧ (q = 0 ∨ 4503599627370496 ≤ k) ∧ l = q * 4503599627370496 + k := by
      by_cases h1 : l < 4503599627370496
      · exact ⟨0, l, by omega, by omega, by omega, by omega⟩
      · exact ⟨l / 4503599627370496 - 1, l % 4503599627370496 + 4503599627370496, by omega, by omega, by omega, by omega⟩
    rw [hm, fz_bits (by omega) hn hq] at h2
    rw [hm, Nat.add_assoc, fz_bits (by omega) (by omega) hq] at h4
    by_cases hjq : q ≤ j
    · obtain ⟨i, rfl⟩ : ∃ i, j = i + q := ⟨j - q, by omega⟩
      rw [Nat.pow_add, ← Nat.mul_assoc] at hN
      rw [hN] at h2 h4
      have g1 := Nat.lt_of_mul_lt_mul_right h2
      have g2 := Nat.lt_of_mul_lt_mul_right h4
      omega
    · obtain ⟨i, hi⟩ : ∃ i, q = i + 1 + j := ⟨q - j - 1, by omega⟩
      have hk2 : 4503599627370496 ≤ k := by omega
      rw [hN, hi, Nat.pow_add, ← Nat.mul_assoc] at h2
      have g1 := Nat.lt_of_mul_lt_mul_right h2
      have g2 : k * 2 ≤ k * 2 ^ (i + 1) := Nat.mul_le_mul_left _ (by rw [Nat.pow_succ]; have := Nat.pow_pos (n := i) (show 0 < 2 by omega); omega)
      omega

/-- a float's parts -/
theorem fz_parts (f : Nat) : fz f = sig f * 2 ^ fsh f := rfl
theorem fz_mag (f : Nat) : fz (fmag f) = fz f := by
  have : fmag (fmag f) = fmag f := Nat.mod_eq_of_lt (fmag_lt f)
  unfold fz sig fsh ffld
  rw [this]

end Go.Proofs.YtapcecjbmcoliaaGreatDoor

namespace Go.Proofs.YtapcecjbmcoliaaGreatDoor

theorem fzs_sgi (f : Nat) : fzs f = sgi (fneg f) (fz f) := rfl
theorem fs_fzs (f : Nat) : fs f 1074 = fzs f := by
  unfold fs fzs fu
  rw [fz_mag]
  simp
theorem sgi_mul (s : Bool) (A k : Nat) : sgi s (A * 2 ^ k) = sgi s A * 2 ^ k := by
  unfold sgi
  have : ((A * 2 ^ k : Nat) : Int) = (A : Int) * 2 ^ k := by rw [Int.natCast_mul, Int.natCast_pow]; rfl
  cases s
  · simp only [Bool.false_eq_true, if_false]; exact this
  · simp only [if_true]; rw [this, Int.neg_mul]
theorem rnd_up {S : Int} (h : S ≠ 0) (k : Nat) (e mode : Int) : rnd (S * 2 ^ k) (e - k) mode = rnd S e mode := by
  have hp : (0 : Int) < 2 ^ k := Int.pow_pos (by omega)
  have e1 : decide (S * 2 ^ k < 0) = decide (S < 0) := by
    refine decide_eq_decide.2 ⟨fun h1 => ?_, fun h1 => Int.mul_neg_of_neg_of_pos h1 hp⟩
    rcases Int.lt_or_le S 0 with h2 | h2
    · exact h2
    · exact absurd (Int.mul_nonneg h2 (Int.le_of_lt hp)) (by omega)
  have e2 : (S * 2 ^ k).natAbs = S.natAbs * 2 ^ k := by rw [Int.natAbs_mul, Int.natAbs_pow]; rfl
  rw [rnd_sgz, rnd_sgz, e1, e2]
  congr 1
  exact fla_eq _ (a := 0) (b := k) mode (Nat.mul_ne_zero (by omega) (Nat.pos_iff_ne_zero.1 (Nat.pow_pos (by omega)))) (by rw [Nat.pow_zero, Nat.mul_one]) (by omega)
theorem fz_self {b : Nat} (hb : finB b = true) (hz : zeroB b = false) (hl : b < 18446744073709551616) (mode : Int) : rnd (fzs b) (-1074) mode = b := by
  have h0 : fmag b ≠ 0 := of_decide_eq_false hz
  have h1 : fmag b < 9218868437227405312 := of_decide_eq_true hb
  have h2 : fz b ≠ 0 := fun h => h0 ((fz_zero b).1 h)
  have hp := f_parts hl
  rw [fzs_sgi, rnd_sgi _ h2, fla_fz _ h0 h1]
  exact hp.symm
theorem zero_fzs {a : Nat} (h : zeroB a = true) : fzs a = 0 := by
  unfold fzs
  rw [(zero_not h).2.2.2]
  split <;> rfl
theorem nz_fzs {a : Nat} (h : zeroB a = false) : fzs a ≠ 0 := by
  have h0 : fmag a ≠ 0 := of_decide_eq_false h
  have h2 : fz a ≠ 0 := fun h => h0 ((fz_zero a).1 h)
  unfold fzs
  split <;> omega

theorem pow_low_ne : (2 : Int) ^ low74 ≠ 0 := Int.ne_of_gt (Int.pow_pos (by omega))
/-- a sum of finite floats -/
theorem add_fin {a b : Nat} (mode : Int) (ha : finB a = true) (hb : finB b = true) (hbl : b < 18446744073709551616) :
    (fzs a + fzs b = 0 → fmag (faddF a b mode) = 0) ∧ (fzs a + fzs b ≠ 0 → faddF a b mode = rnd (fzs a + fzs b) (-1074) mode) := by
  obtain ⟨a1, a2⟩ := fin_not ha
  obtain ⟨b1, b2⟩ := fin_not hb
  unfold faddF
  rw [add_form, a1, a2, b1, b2]
  simp only [Bool.or_false, Bool.false_and, Bool.false_or, Bool.false_eq_true, if_false]
  cases hza : zeroB a
  · simp only [Bool.false_and, Bool.false_eq_true, if_false]
    rw [sgi_mul, sgi_mul, ← Int.add_mul, ← fzs_sgi, ← fzs_sgi]
    unfold rsum
    constructor
    · intro h
      rw [h, if_pos (Int.zero_mul _)]
      exact (cancel_num mode).2.2
    · intro h
      rw [if_neg (Int.mul_ne_zero h pow_low_ne), show (-2148 : Int) = -1074 - (low74 : Nat) from rfl, rnd_up h]
  · cases hzb : zeroB b
    · simp only [Bool.true_and, Bool.false_and, Bool.false_eq_true, if_false, if_true]
      rw [zero_fzs hza, Int.zero_add]
      exact ⟨fun h => absurd h (nz_fzs hzb), fun _ => (fz_self hb hzb hbl mode).symm⟩
    · rw [zero_fzs hza, zero_fzs hzb]
      refine ⟨fun _ => ?_, fun h => absurd rfl h⟩
      simp only [Bool.true_and, if_true]
      split
      · exact (cancel_num mode).2.2
      · exact (zero_not hzb).2.2.1
theorem add_rank {a b : Nat} (mode : Int) (ha : finB a = true) (hb : finB b = true) (hbl : b < 18446744073709551616) : frank (faddF a b mode) = frank (rz (fzs a + fzs b) (-1074) mode) := by
  obtain ⟨h1, h2⟩ := add_fin mode ha hb hbl
  unfold rz
  by_cases h : fzs a + fzs b = 0
  · rw [if_pos h, frank_zero (h1 h)]; decide
  · rw [if_neg h, h2 h]

theorem fin_rank {a : Nat} (hf : finB a = true) : -9218868437227405312 < frank a ∧ frank a < 9218868437227405312 := by
  have h : fmag a < 9218868437227405312 := of_decide_eq_true hf
  unfold frank
  split <;> omega
theorem fabs_facts {a : Nat} (ha : finB a = true) : fabsF a = fmag a ∧ finB (fabsF a) = true ∧ fabsF a < 18446744073709551616 ∧ fzs (fabsF a) = (fz a : Int) ∧ fz (fabsF a) = fz a := by
  have h1 := (fin_not ha).1
  have h2 := fmag_lt a
  have h3 : fabsF a = fmag a := by unfold fabsF; rw [h1]; rfl
  have h4 : fmag (fmag a) = fmag a := Nat.mod_eq_of_lt h2
  have h5 : fneg (fmag a) = false := decide_eq_false (by omega)
  rw [h3]
  refine ⟨rfl, ?_, by omega, ?_, fz_mag a⟩
  · unfold finB at ha ⊢; rw [h4]; exact ha
  · unfold fzs; rw [h5, fz_mag]; rfl
end Go.Proofs.YtapcecjbmcoliaaGreatDoor

namespace Go.Proofs.YtapcecjbmcoliaaGreatDoor
open Go.RowKit

theorem blen_spec {a : Nat} (h : a ≠ 0) : ∃ l, blen a = l + 1 ∧ 2 ^ l ≤ a ∧ a < 2 ^ (l + 1) := by
  refine ⟨Nat.log2 a, by unfold blen; rw [if_neg h], Nat.log2_self_le h, Nat.lt_log2_self⟩

theorem blen_limbs {a e : Nat} (h : a < 4294967296 ^ e) : blen a ≤ 32 * e := by
  rw [show 4294967296 ^ e = 2 ^ (32 * e) by rw [Nat.pow_mul]] at h
  by_cases h0 : a = 0
  · unfold blen; rw [if_pos h0]; omega
  · have h1 : blen a = Nat.log2 a + 1 := by unfold blen; rw [if_neg h0]
    have h2 := (Nat.log2_lt h0).2 h
    omega

theorem pow_limbs {k e : Nat} (h : k ≤ 32 * e) : 2 ^ k ≤ 4294967296 ^ e := by
  rw [show 4294967296 ^ e = 2 ^ (32 * e) by rw [Nat.pow_mul]]
  exact Nat.pow_le_pow_right (by omega) h

end Go.Proofs.YtapcecjbmcoliaaGreatDoor

namespace Go.Proofs.YtapcecjbmcoliaaGreatDoor

/-- how often 2 divides a, 0 for zero -/
def tzf (a : Nat) : Nat := if h : a = 0 ∨ a % 2 = 1 then 0 else tzf (a / 2) + 1
termination_by a
decreasing_by omega

theorem tzf_isTz (a : Nat) : IsTz a (tzf a) := by
  induction a using Nat.strongRecOn with
  | _ a ih =>
    rw [tzf]
    by_cases h0 : a = 0
    · rw [dif_pos (Or.inl h0)]; exact Or.inl ⟨h0, rfl⟩
    · by_cases h1 : a % 2 = 1
      · rw [dif_pos (Or.inr h1)]; exact Or.inr ⟨h0, a / 2, by rw [Nat.pow_zero]; omega⟩
      · rw [dif_neg (by omega)]
        rcases ih (a / 2) (by omega) with ⟨h2, _⟩ | ⟨_, m, hm⟩
        · omega
        · refine Or.inr ⟨h0, m, ?_⟩
          rw [Nat.pow_succ, Nat.mul_assoc, Nat.mul_left_comm, ← hm]; omega

theorem tzf_of {a t : Nat} (h : IsTz a t) : t = tzf a := h.unique (tzf_isTz a)
theorem tzf_zero : tzf 0 = 0 := by rw [tzf]; simp
theorem tzf_odd {a : Nat} (h : a % 2 = 1) : tzf a = 0 := by rw [tzf]; simp [h]
theorem tzf_mul {a : Nat} (h : a ≠ 0) (k : Nat) : tzf (a * 2 ^ k) = tzf a + k := ((tzf_of ((tzf_isTz a).mul h k))).symm

theorem two_pos (k : Nat) : (0 : Int) < 2 ^ k := Int.pow_pos (by omega)
theorem natAbs_shift (x : Int) (k : Nat) : (x * 2 ^ k).natAbs = x.natAbs * 2 ^ k := by rw [Int.natAbs_mul, Int.natAbs_pow]; rfl
theorem mul_two_ne {x : Int} (h : x ≠ 0) (k : Nat) : x * 2 ^ k ≠ 0 := Int.mul_ne_zero h (Int.ne_of_gt (two_pos k))

/-- the odd part -/
theorem odd_part {x : Int} (h : x ≠ 0) : ∃ m, x = m * 2 ^ tzf x.natAbs ∧ m.natAbs % 2 = 1 ∧ x / 2 ^ tzf x.natAbs = m := by
  rcases tzf_isTz x.natAbs with ⟨h0, _⟩ | ⟨_, q, hq⟩
  · omega
  · generalize tzf x.natAbs = t at *
    have hp := two_pos t
    rcases Int.lt_or_gt_of_ne h with hx | hx
    · have e : x = (-(2 * (q : Int) + 1)) * 2 ^ t := by
        have : x = -(x.natAbs : Int) := by omega
        rw [this, hq]; push_cast; rw [Int.neg_mul, Int.mul_comm]
      exact ⟨_, e, by omega, by rw [e, Int.mul_ediv_cancel _ (Int.ne_of_gt hp)]⟩
    · have e : x = (2 * (q : Int) + 1) * 2 ^ t := by
        have : x = (x.natAbs : Int) := by omega
        rw [this, hq]; push_cast; rw [Int.mul_comm]
      exact ⟨_, e, by omega, by rw [e, Int.mul_ediv_cancel _ (Int.ne_of_gt hp)]⟩

/-- a dyad: none if it is not representable, otherwise the odd integer and the exponent (or two zeros) -/
abbrev Dy := Option (Int × Int)

/-- x times 2 to the power e, normalized -/
def dmk (x e : Int) : Dy :=
  if x = 0 then some (0, 0) else
  if e < -65536 - (tzf x.natAbs : Int) ∨ 65536 - (blen x.natAbs : Int) < e then none else some (x / 2 ^ tzf x.natAbs, e + tzf x.natAbs)

theorem dmk_zero (e : Int) : dmk 0 e = some (0, 0) := by simp [dmk]
theorem dmk_shift (x e : Int) (k : Nat) : dmk (x * 2 ^ k) e = dmk x (e + k) := by
  by_cases h : x = 0
  · subst h; simp [dmk]
  · have hn : x.natAbs ≠ 0 := by omega
    unfold dmk
    rw [if_neg h, if_neg (mul_two_ne h k), natAbs_shift, tzf_mul hn, blen_mul hn]
    have e1 : x * 2 ^ k / 2 ^ (tzf x.natAbs + k) = x / 2 ^ tzf x.natAbs := by
      rw [Int.pow_add, Int.mul_ediv_mul_of_pos_left _ _ (two_pos k)]
    rw [e1]
    by_cases hc : e < -65536 - ((tzf x.natAbs + k : Nat) : Int) ∨ 65536 - ((blen x.natAbs + k : Nat) : Int) < e
    · rw [if_pos hc, if_pos (by omega)]
    · rw [if_neg hc, if_neg (by omega)]
      congr 2; omega

/-- in normalized form -/
def Nd : Dy → Prop
  | none => True
  | some (m, e) => (m = 0 ∧ e = 0) ∨ (m.natAbs % 2 = 1 ∧ -65536 ≤ e ∧ e + blen m.natAbs ≤ 65536)

theorem dmk_nd (x e : Int) : Nd (dmk x e) := by
  unfold dmk
  by_cases h : x = 0
  · rw [if_pos h]; exact Or.inl ⟨rfl, rfl⟩
  · rw [if_neg h]
    split
    · trivial
    · rename_i hc
      obtain ⟨m, h1, h2, h3⟩ := odd_part h
      refine Or.inr ?_
      rw [h3]
      have hb : blen x.natAbs = blen m.natAbs + tzf x.natAbs := by
        conv => lhs; rw [h1]
        rw [natAbs_shift, blen_mul (by omega)]
      refine ⟨h2, by omega, by omega⟩

theorem dmk_norm {m e : Int} (h : Nd (some (m, e))) : dmk m e = some (m, e) := by
  rcases h with ⟨rfl, rfl⟩ | ⟨h1, h2, h3⟩
  · exact dmk_zero 0
  · unfold dmk
    rw [if_neg (by omega), tzf_odd h1, if_neg (by omega)]
    simp

/-- the integer in units of 2^-65536; not for none -/
def sc : Dy → Int
  | none => 0
  | some (m, e) => m * 2 ^ (e + 65536).toNat

/-- the sum, the product, the opposite -/
def dadd : Dy → Dy → Dy
  | some p, some q => dmk (sc (some p) + sc (some q)) (-65536)
  | _, _ => none
def dmul : Dy → Dy → Dy
  | some p, some q => dmk (p.1 * q.1) (p.2 + q.2)
  | _, _ => none
def dneg : Dy → Dy
  | some p => some (-p.1, p.2)
  | none => none
def dabs : Dy → Dy
  | some p => some (p.1.natAbs, p.2)
  | none => none
theorem dneg_nd {d : Dy} (h : Nd d) : Nd (dneg d) := by
  cases d with
  | none => trivial
  | some p =>
    rcases h with ⟨h1, h2⟩ | ⟨h1, h2, h3⟩
    · exact Or.inl ⟨by simp [h1], h2⟩
    · exact Or.inr ⟨by simpa using h1, h2, by simpa using h3⟩
theorem dabs_nd {d : Dy} (h : Nd d) : Nd (dabs d) := by
  cases d with
  | none => trivial
  | some p =>
    rcases h with ⟨h1, h2⟩ | ⟨h1, h2, h3⟩
    · exact Or.inl ⟨by simp [h1], h2⟩
    · exact Or.inr ⟨by simpa using h1, h2, by simpa using h3⟩

/-- d is valid, and N in units of 2^-S -/
def Is (d : Dy) (S : Nat) (N : Int) : Prop := ∃ m e, d = some (m, e) ∧ Nd d ∧ 0 ≤ e + S ∧ N = m * 2 ^ (e + S).toNat

theorem Is.nd {d : Dy} {S : Nat} {N : Int} (h : Is d S N) : Nd d := by obtain ⟨_, _, _, h, _⟩ := h; exact h
theorem Is.mk {d : Dy} {S : Nat} {N : Int} (h : Is d S N) : d = dmk N (-S) := by
  obtain ⟨m, e, rfl, h1, h2, rfl⟩ := h
  rw [dmk_shift, show (-(S : Int)) + (e + S).toNat = e by omega, dmk_norm h1]
theorem Is.unique {d d' : Dy} {S : Nat} {N : Int} (h : Is d S N) (h' : Is d' S N) : d = d' := by rw [h.mk, h'.mk]
theorem blen_le_of_lt {a k : Nat} (h : a < 2 ^ k) : blen a ≤ k := by
  by_cases h0 : a = 0
  · subst h0; simp [blen]
  · obtain ⟨l, h1, h2, _⟩ := blen_spec h0
    rw [h1]
    have : 2 ^ l < 2 ^ k := by omega
    exact (Nat.pow_lt_pow_iff_right (by omega)).1 this

/-- what is far from the limits is representable -/
theorem Is.of_dmk {N : Int} {S B : Nat} (hS : S ≤ 65536) (hN : N.natAbs < 2 ^ B) (hB : B ≤ 65536) : Is (dmk N (-S)) S N := by
  by_cases h : N = 0
  · subst h; rw [dmk_zero]; exact ⟨0, 0, rfl, Or.inl ⟨rfl, rfl⟩, by omega, by simp⟩
  · have hb := blen_le_of_lt hN
    have hnd := dmk_nd N (-S)
    obtain ⟨m, h1, h2, h3⟩ := odd_part h
    have e : dmk N (-(S : Int)) = some (m, -(S : Int) + (tzf N.natAbs : Int)) := by
      unfold dmk
      rw [if_neg h, if_neg (by omega), h3]
    rw [e] at hnd ⊢
    refine ⟨_, _, rfl, hnd, by omega, ?_⟩
    rw [show (-(S : Int) + (tzf N.natAbs : Int) + S).toNat = tzf N.natAbs by omega]
    exact h1

theorem sc_is {d : Dy} {S : Nat} {N : Int} (h : Is d S N) (hS : S ≤ 65536) : sc d = N * 2 ^ (65536 - S) := by
  obtain ⟨m, e, rfl, h1, h2, rfl⟩ := h
  unfold sc
  simp only
  rw [show (e + 65536).toNat = (e + S).toNat + (65536 - S) by omega, Int.pow_add, Int.mul_assoc]

theorem Is.add {d d' : Dy} {S : Nat} {N M : Int} (h : Is d S N) (h' : Is d' S M) (hS : S ≤ 65536) {B : Nat} (hb : (N + M).natAbs < 2 ^ B) (hB : B ≤ 65536) : Is (dadd d d') S (N + M) := by
  have e : dadd d d' = dmk (N + M) (-S) := by
    have a := sc_is h hS
    have b := sc_is h' hS
    obtain ⟨m, x, rfl, _⟩ := h
    obtain ⟨n, y, rfl, _⟩ := h'
    show dmk (sc _ + sc _) _ = _
    rw [a, b, ← Int.add_mul, dmk_shift]
    congr 1; omega
  rw [e]
  exact Is.of_dmk hS hb hB

theorem Is.neg {d : Dy} {S : Nat} {N : Int} (h : Is d S N) : Is (dneg d) S (-N) := by
  have hd := dneg_nd h.nd
  obtain ⟨m, e, rfl, h1, h2, rfl⟩ := h
  exact ⟨-m, e, rfl, hd, h2, by rw [Int.neg_mul]⟩
theorem Is.abs {d : Dy} {S : Nat} {N : Int} (h : Is d S N) : Is (dabs d) S N.natAbs := by
  have hd := dabs_nd h.nd
  obtain ⟨m, e, rfl, h1, h2, rfl⟩ := h
  refine ⟨m.natAbs, e, rfl, hd, h2, ?_⟩
  rw [natAbs_shift]; push_cast; rfl

theorem Is.mul {d d' : Dy} {S T : Nat} {N M : Int} (h : Is d S N) (h' : Is d' T M) (hS : S + T ≤ 65536) {B : Nat} (hb : (N * M).natAbs < 2 ^ B) (hB : B ≤ 65536) : Is (dmul d d') (S + T) (N * M) := by
  have e : dmul d d' = dmk (N * M) (-((S + T : Nat) : Int)) := by
    obtain ⟨m, x, rfl, _, h2, rfl⟩ := h
    obtain ⟨n, y, rfl, _, h2', rfl⟩ := h'
    show dmk (m * n) (x + y) = _
    have : m * 2 ^ (x + S).toNat * (n * 2 ^ (y + T).toNat) = m * n * 2 ^ ((x + S).toNat + (y + T).toNat) := by
      rw [Int.pow_add, Int.mul_assoc, Int.mul_left_comm (2 ^ (x + S).toNat), ← Int.mul_assoc]
    rw [this, dmk_shift]
    congr 1; omega
  rw [e]
  exact Is.of_dmk hS hb hB

theorem Is.zero {d : Dy} {S : Nat} {N : Int} (h : Is d S N) : (∃ m e, d = some (m, e) ∧ (m = 0 ↔ N = 0) ∧ (m < 0 ↔ N < 0)) := by
  obtain ⟨m, e, rfl, h1, h2, rfl⟩ := h
  have hp := two_pos (e + S).toNat
  refine ⟨m, e, rfl, ⟨fun h => by rw [h, Int.zero_mul], fun h => ?_⟩, ⟨fun h => Int.mul_neg_of_neg_of_pos h hp, fun h => ?_⟩⟩
  · rcases Int.mul_eq_zero.1 h with h | h <;> omega
  · rcases Int.lt_or_le m 0 with h3 | h3
    · exact h3
    · have := Int.mul_nonneg h3 (Int.le_of_lt hp); omega
end Go.Proofs.YtapcecjbmcoliaaGreatDoor
