import Derived.Test.YtecaaklbhhjcjaaGreatDoorIRelU3
import Derived.Test.YtecaaklbhhjcjaaGreatDoorIRelU13
import Derived.Test.YtecaaklbhhjcjaaGreatDoorIRelU14
import Derived.WalkKit
import Derived.WalkSmall
import Derived.Lib.Hide
import Derived.Test.YtecaaklbhhjcjaaGreatDoorIRelU4
import Derived.Test.YtecaaklbhhjcjaaGreatDoorIRelU9
import Derived.Test.YtecaaklbhhjcjaaGreatDoorIRelU0
import Derived.Test.YtecaaklbhhjcjaaGreatDoorIRelU8
import Derived.Test.YtecaaklbhhjcjaaGreatDoorIRelU7
import Derived.Test.YtecaaklbhhjcjaaGreatDoorIRelU6
import Derived.Deep.RegionHeld3
import Derived.Test.YtecaaklbhhjcjaaGreatDoorIRelU1
namespace Go.Proofs.YtecaaklbhhjcjaaGreatDoor
open Go.RowKit

theorem nanB_not {f : Nat} (h : nanB f = false) : fmag f ≤ 9218868437227405312 := by
  have := of_decide_eq_false h
  omega
theorem neg_rank {f : Nat} (hf : f < 18446744073709551616) (hn : nanB f = false) : nanB (fnegF f) = false ∧ frank (fnegF f) = - frank f ∧ (fnegF f = 9218868437227405312 → frank f = -9218868437227405312) := by
  have hp := f_parts hf
  have hm := nanB_not hn
  have hl := fmag_lt f
  unfold fnegF
  rw [if_neg (by rw [hn]; simp)]
  cases hs : fneg f
  · rw [hs] at hp
    have e1 : fneg (sgz (!false) + fmag f) = true := by unfold fneg sgz; simp
    have e2 : fmag (sgz (!false) + fmag f) = fmag f := by unfold fmag sgz; simp <;> omega
    refine ⟨decide_eq_false (by rw [e2]; omega), ?_, ?_⟩
    · unfold frank; rw [e1, e2, hs]; simp
    · unfold sgz; simp <;> omega
  · rw [hs] at hp
    have e1 : fneg (sgz (!true) + fmag f) = false := by unfold fneg sgz; simp <;> omega
    have e2 : fmag (sgz (!true) + fmag f) = fmag f := by unfold fmag sgz; simp <;> omega
    refine ⟨decide_eq_false (by rw [e2]; omega), ?_, ?_⟩
    · unfold frank; rw [e1, e2, hs]; simp
    · intro h
      unfold frank
      rw [hs, if_pos rfl]
      unfold sgz at h
      simp at h
      omega

/-- the results of Cmp -/
def FcmpOut (a b : Nat) (s : Int) (ok : Bool) : Prop := if nanB a || nanB b then s = 0 ∧ ok = false else s = sgn3 (frank a) (frank b) ∧ ok = true
theorem fcmp_nan {a b : Nat} (h : nanB a = true ∨ nanB b = true) : FcmpOut a b 0 false := by
  unfold FcmpOut
  rw [if_pos (by rcases h with h | h <;> simp [h])]
  exact ⟨rfl, rfl⟩
theorem fcmp_num {a b : Nat} {s : Int} (ha : nanB a = false) (hb : nanB b = false) (hs : sgn3 (frank a) (frank b) = s) : FcmpOut a b s true := by
  unfold FcmpOut
  rw [if_neg (by simp [ha, hb])]
  exact ⟨hs.symm, rfl⟩

set_option maxRecDepth 100000 in
set_option maxHeartbeats 400000 in
theorem compare64_any (x y : Int) (w : World) : Calls Tryz.prog 148 #[.int .i64 x, .int .i64 y] w fun e w' => e = .returned (.int .i64 (sgn3 x y)) ∧ w = w' := by
  have hx : (x != x) = false := by simp
  have hy : (y != y) = false := by simp
  by_cases h1 : x < y
  · have e : sgn3 x y = -1 := by simp [sgn3, h1]
    have E := Lib.hid e; clear e
    go_enter Tryz.func148, Tryz.ntmps148
    go_wp2_with go_in
    go_ret
    exact ⟨by rw [E.out]; rfl, rfl⟩
  · by_cases h2 : y < x
    · have e : sgn3 x y = 1 := by simp [sgn3, h1, h2]
      have E := Lib.hid e; clear e
      go_enter Tryz.func148, Tryz.ntmps148
      go_wp2_with go_in
      go_ret
      exact ⟨by rw [E.out]; rfl, rfl⟩
    · have e : sgn3 x y = 0 := by simp [sgn3, h1, h2]
      have E := Lib.hid e; clear e
      go_enter Tryz.func148, Tryz.ntmps148
      go_wp2_with go_in
      go_ret
      exact ⟨by rw [E.out]; rfl, rfl⟩

set_option maxRecDepth 100000 in
set_option maxHeartbeats 1000000 in
theorem fcmp_any (a b : Nat) (ha : a < 18446744073709551616) (hb : b < 18446744073709551616) (s : Int) (ok : Bool) (h : FcmpOut a b s ok) (w : World) :
    Calls Tryz.prog 72 #[.int .u64 (a : Int), .int .u64 (b : Int)] w fun e w' => e = .returned (.tuple #[.int .i64 s, .bool ok]) ∧ Ext w w' := by
  unfold FcmpOut at h
  obtain ⟨na, hna⟩ : ∃ na, nanB a = na := ⟨_, rfl⟩
  obtain ⟨nb, hnb⟩ : ∃ nb, nanB b = nb := ⟨_, rfl⟩
  rw [hna, hnb] at h
  have HA := Lib.hid hna; clear hna
  have HB := Lib.hid hnb; clear hnb
  cases na with
  | true =>
    simp only [Bool.true_or, if_true] at h
    obtain ⟨rfl, rfl⟩ := h
    go_enter Tryz.func72, Tryz.ntmps72
    go_wp2_with (go_at_call 147; refine (isNaN_any a ha _).mono ?_; rw [HA.out]; rintro e w' ⟨rfl, rfl⟩)
    go_ret2
    exact ⟨rfl, Below.refl _ _⟩
  | false =>
    cases nb with
    | true =>
      simp only [Bool.false_or, if_true] at h
      obtain ⟨rfl, rfl⟩ := h
      go_enter Tryz.func72, Tryz.ntmps72
      go_wp2_with fail
      refine (isNaN_any a ha _).mono ?_
      rw [HA.out]
      rintro e w' ⟨rfl, rfl⟩
      go_wp2_with fail
      refine (isNaN_any b hb _).mono ?_
      rw [HB.out]
      rintro e w' ⟨rfl, rfl⟩
      go_wp2
      go_ret2
      exact ⟨rfl, Below.refl _ _⟩
    | false =>
      simp only [Bool.or_self, Bool.false_eq_true, if_false] at h
      obtain ⟨hs, rfl⟩ := h
      have ra := rank_any a ha
      have rb := rank_any b hb
      generalize frank a = x at *
      generalize frank b = y at *
      have RA := Lib.hid ra; clear ra
      have RB := Lib.hid rb; clear rb
      subst hs
      have HC := Lib.hid (compare64_any x y)
      generalize sgn3 x y = s at *
      go_enter Tryz.func72, Tryz.ntmps72
      go_wp2_with fail
      refine (isNaN_any a ha _).mono ?_
      rw [HA.out]
      rintro e w' ⟨rfl, rfl⟩
      go_wp2_with fail
      refine (isNaN_any b hb _).mono ?_
      rw [HB.out]
      rintro e w' ⟨rfl, rfl⟩
      go_wp2_with fail
      refine (RA.out _).mono ?_
      rintro e w' ⟨rfl, rfl⟩
      go_wp2_with fail
      refine (RB.out _).mono ?_
      rintro e w' ⟨rfl, rfl⟩
      go_wp2_with fail
      refine (HC.out _).mono ?_
      rintro e w' ⟨rfl, rfl⟩
      go_wp2
      go_ret2
      exact ⟨rfl, Below.refl _ _⟩
end Go.Proofs.YtecaaklbhhjcjaaGreatDoor

namespace Go.Proofs.YtecaaklbhhjcjaaGreatDoor

theorem fmag_sgz (s : Bool) {f : Nat} (h : f < 9223372036854775808) : fmag (sgz s + f) = f ∧ fneg (sgz s + f) = s := by
  unfold fmag fneg sgz
  cases s
  · exact ⟨by simp; omega, by simp; omega⟩
  · exact ⟨by simp; omega, by simp⟩
/-- negating a number that is no NaN -/
theorem fnegF_sgz (s : Bool) {f : Nat} (h : f ≤ 9218868437227405312) : fnegF (sgz s + f) = sgz (!s) + f := by
  obtain ⟨h1, h2⟩ := fmag_sgz s (show f < 9223372036854775808 by omega)
  unfold fnegF nanB
  rw [h1, h2, decide_eq_false (by omega)]
  rfl
theorem fneg_parts {a : Nat} (ha : a < 18446744073709551616) (hn : nanB a = false) : ∃ s m, m ≤ 9218868437227405312 ∧ a = sgz s + m ∧ fnegF a = sgz (!s) + m ∧ fneg a = s ∧ fmag a = m := by
  have h1 := nanB_not hn
  have h2 := f_parts ha
  refine ⟨fneg a, fmag a, h1, h2, ?_, rfl, rfl⟩
  have := fnegF_sgz (fneg a) h1
  rwa [← h2] at this
theorem neg_facts {a : Nat} (ha : a < 18446744073709551616) (hn : nanB a = false) : nanB (fnegF a) = false ∧ infB (fnegF a) = infB a ∧ zeroB (fnegF a) = zeroB a ∧ fz (fnegF a) = fz a ∧ fneg (fnegF a) = !(fneg a) ∧ sig (fnegF a) = sig a ∧ fsh (fnegF a) = fsh a ∧ fmag (fnegF a) = fmag a := by
  obtain ⟨s, m, h1, h2, h3, h4, h5⟩ := fneg_parts ha hn
  obtain ⟨g1, g2⟩ := fmag_sgz (!s) (show m < 9223372036854775808 by omega)
  have e1 : fmag (fnegF a) = fmag a := by rw [h3, h5, g1]
  have e2 : fneg (fnegF a) = !(fneg a) := by rw [h3, h4, g2]
  have e3 : sig (fnegF a) = sig a := by unfold sig ffld; rw [e1]
  have e4 : fsh (fnegF a) = fsh a := by unfold fsh ffld; rw [e1]
  refine ⟨?_, ?_, ?_, ?_, e2, e3, e4, e1⟩
  · unfold nanB at hn ⊢; rw [e1, hn]
  · unfold infB; rw [e1]
  · unfold zeroB; rw [e1]
  · unfold fz; rw [e3, e4]
theorem sgi_not (s : Bool) (A : Nat) : sgi (!s) A = - sgi s A := by unfold sgi; cases s <;> simp
end Go.Proofs.YtecaaklbhhjcjaaGreatDoor

namespace Go.Proofs.YtecaaklbhhjcjaaGreatDoor

/-- what rounding a magnitude gives: the greatest float that is not greater, or the next one -/
theorem fla_near {N : Nat} (h0 : N ≠ 0) (e : Int) {T : Nat} (hT : 1074 ≤ T) (he : -(T : Int) ≤ e) (neg : Bool) (mode : Int) : ∃ lo b, (Rx N e T lo ∧ fla neg N e false mode = lo) ∨ (Rd N e T lo b ∧ fla neg N e false mode = lo + (if fraise neg mode b then 1 else 0)) := by
  rcases fla_spec h0 e hT he with ⟨lo, h⟩ | ⟨lo, b, h⟩
  · exact ⟨lo, false, Or.inl ⟨h, h.2.1 neg mode⟩⟩
  · exact ⟨lo, b, Or.inr ⟨h, h.val neg mode⟩⟩

theorem fla_mono {N N' : Nat} (h0 : N ≠ 0) (h0' : N' ≠ 0) (e e' : Int) {T : Nat} (hT : 1074 ≤ T) (he : -(T : Int) ≤ e) (he' : -(T : Int) ≤ e') (h : vu N e T ≤ vu N' e' T) (neg : Bool) (mode : Int) : fla neg N e false mode ≤ fla neg N' e' false mode := by
  obtain ⟨lo, b, h1⟩ := fla_near h0 e hT he neg mode
  obtain ⟨lo', b', h2⟩ := fla_near h0' e' hT he' neg mode
  have hle : lo ≤ lo' := by
    rcases Nat.lt_or_ge lo' lo with h3 | h3
    · exfalso
      have hlt : lo < 9218868437227405312 := by
        rcases h1 with ⟨h1, _⟩ | ⟨h1, _⟩
        · exact h1.1
        · exact h1.lt
      have g1 : fu lo T ≤ vu N e T := by
        rcases h1 with ⟨h1, _⟩ | ⟨h1, _⟩
        · exact Nat.le_of_eq h1.2.2
        · exact Nat.le_of_lt h1.above
      have g2 : vu N' e' T < fu (lo' + 1) T := by
        rcases h2 with ⟨h2, _⟩ | ⟨h2, _⟩
        · rw [← h2.2.2]; exact fu_lt (by omega) (by omega)
        · rcases h2.below with h4 | h4
          · omega
          · exact h4
      have g3 : fu (lo' + 1) T ≤ fu lo T := fu_le (by omega) (by omega)
      omega
    · exact h3
  rcases h1 with ⟨h1, e1⟩ | ⟨h1, e1⟩
  · rw [e1]
    rcases h2 with ⟨h2, e2⟩ | ⟨h2, e2⟩ <;> rw [e2] <;> omega
  · rcases Nat.lt_or_ge lo lo' with h3 | h3
    · rw [e1]
      have : lo + (if fraise neg mode b then 1 else 0) ≤ lo + 1 := by split <;> omega
      rcases h2 with ⟨h2, e2⟩ | ⟨h2, e2⟩ <;> rw [e2] <;> omega
    · obtain rfl : lo = lo' := by omega
      rcases h2 with ⟨h2, e2⟩ | ⟨h2, e2⟩
      · exfalso
        have := h1.above
        have := h2.2.2
        omega
      · rw [e1, e2]
        have hb : b = true → b' = true := by
          intro hb
          subst hb
          rcases h1.near with ⟨_, n1⟩ | ⟨n1, _⟩ | ⟨n1, n2⟩
          · rcases h2.near with ⟨n3, _⟩ | ⟨_, n3⟩ | ⟨n3, _⟩
            · exact n3
            · omega
            · omega
          · cases n1
          · rcases h2.near with ⟨n3, _⟩ | ⟨_, n3⟩ | ⟨n3, n4⟩
            · exact n3
            · omega
            · rw [n4, ← n2]
        unfold fraise
        cases b with
        | true => rw [hb rfl]; exact Nat.le_refl _
        | false => cases b' <;> repeat' split <;> first | omega | simp_all

/-- the value of a number with its sign -/
def vs (S : Int) (e : Int) (T : Nat) : Int := S * 2 ^ (e + T).toNat
/-- .. of a float -/
def fs (f T : Nat) : Int := if fneg f then -(fu (fmag f) T : Int) else (fu (fmag f) T : Int)

theorem vs_abs (S e : Int) (T : Nat) : (vs S e T).natAbs = vu S.natAbs e T := by
  unfold vs vu
  rw [Int.natAbs_mul, Int.natAbs_pow]
  rfl
theorem vs_sign (S e : Int) (T : Nat) : (vs S e T < 0 ↔ S < 0) ∧ (vs S e T = 0 ↔ S = 0) := by
  unfold vs
  have hp : (0 : Int) < 2 ^ (e + T).toNat := Int.pow_pos (by omega)
  generalize (2 : Int) ^ (e + T).toNat = p at *
  constructor
  · constructor
    · intro h
      rcases Int.lt_or_le S 0 with h1 | h1
      · exact h1
      · exact absurd (Int.mul_nonneg h1 (Int.le_of_lt hp)) (by omega)
    · intro h; exact Int.mul_neg_of_neg_of_pos h hp
  · constructor
    · intro h
      rcases Int.mul_eq_zero.1 h with h1 | h1
      · exact h1
      · omega
    · rintro rfl; exact Int.zero_mul _

theorem rnd_sgz (S e mode : Int) : rnd S e mode = sgz (decide (S < 0)) + fla (decide (S < 0)) S.natAbs e false mode := rfl
theorem rnd_facts (S e mode : Int) : nanB (rnd S e mode) = false ∧ rnd S e mode < 18446744073709551616 ∧ fneg (rnd S e mode) = decide (S < 0) ∧ fmag (rnd S e mode) = fla (decide (S < 0)) S.natAbs e false mode := by
  have h := fla_le (decide (S < 0)) S.natAbs e false mode
  obtain ⟨h1, h2⟩ := fmag_sgz (decide (S < 0)) (show fla (decide (S < 0)) S.natAbs e false mode < 9223372036854775808 by omega)
  exact ⟨(nan_mag _ h).1, (nan_mag _ h).2, h2, h1⟩

/-- a dyad's number rounded: zero is +0 -/
def rz (S e mode : Int) : Nat := if S = 0 then 0 else rnd S e mode
theorem rz_facts (S e mode : Int) : nanB (rz S e mode) = false ∧ rz S e mode < 18446744073709551616 := by
  unfold rz
  split
  · decide
  · exact ⟨(rnd_facts S e mode).1, (rnd_facts S e mode).2.1⟩
theorem rank_sign (S e mode : Int) : (S < 0 → frank (rz S e mode) = -(fla true S.natAbs e false mode : Int)) ∧ (0 < S → frank (rz S e mode) = (fla false S.natAbs e false mode : Int)) ∧ (S = 0 → frank (rz S e mode) = 0) := by
  refine ⟨fun h => ?_, fun h => ?_, fun h => ?_⟩
  · unfold rz; rw [if_neg (by omega)]
    obtain ⟨-, -, h3, h4⟩ := rnd_facts S e mode
    unfold frank
    rw [h3, h4, decide_eq_true h, if_pos rfl]
  · unfold rz; rw [if_neg (by omega)]
    obtain ⟨-, -, h3, h4⟩ := rnd_facts S e mode
    unfold frank
    rw [h3, h4, decide_eq_false (by omega), if_neg (by simp)]
  · unfold rz; rw [if_pos h]; decide

theorem rz_mono {S S' e e' : Int} {T : Nat} (hT : 1074 ≤ T) (he : -(T : Int) ≤ e) (he' : -(T : Int) ≤ e') (h : vs S e T ≤ vs S' e' T) (mode : Int) : frank (rz S e mode) ≤ frank (rz S' e' mode) := by
  obtain ⟨r1, r2, r3⟩ := rank_sign S e mode
  obtain ⟨q1, q2, q3⟩ := rank_sign S' e' mode
  obtain ⟨s1, s2⟩ := vs_sign S e T
  obtain ⟨s3, s4⟩ := vs_sign S' e' T
  have a1 := vs_abs S e T
  have a2 := vs_abs S' e' T
  rcases Int.lt_trichotomy S 0 with h1 | h1 | h1
  · rw [r1 h1]
    rcases Int.lt_trichotomy S' 0 with h2 | h2 | h2
    · rw [q1 h2]
      have := fla_mono (N := S'.natAbs) (N' := S.natAbs) (by omega) (by omega) e' e hT he' he (by rw [← a1, ← a2]; omega) true mode
      omega
    · rw [q3 h2]; omega
    · rw [q2 h2]; omega
  · rw [r3 h1]
    have h2 : ¬ S' < 0 := by rw [← s3]; have := s2.2 h1; omega
    rcases Int.lt_or_eq_of_le (show 0 ≤ S' by omega) with h3 | h3
    · rw [q2 h3]; omega
    · rw [q3 h3.symm]; exact Int.le_refl _
  · rw [r2 h1]
    have h2 : 0 < S' := by omega
    rw [q2 h2]
    have := fla_mono (N := S.natAbs) (N' := S'.natAbs) (by omega) (by omega) e e' hT he he' (by rw [← a1, ← a2]; omega) false mode
    omega

/-- the floats' order is that of their values -/
theorem fs_rank {a b T : Nat} (ha : nanB a = false) (hb : nanB b = false) : (fs a T < fs b T ↔ frank a < frank b) ∧ (fs a T = fs b T ↔ frank a = frank b) := by
  have h1 := nanB_not ha
  have h2 := nanB_not hb
  have l1 := fu_lt_iff (T := T) h1 h2
  have l2 := fu_lt_iff (T := T) h2 h1
  have z1 := fu_lt_iff (T := T) (show 0 ≤ 9218868437227405312 by omega) h1
  have z2 := fu_lt_iff (T := T) (show 0 ≤ 9218868437227405312 by omega) h2
  rw [fu_zero] at z1 z2
  unfold fs frank
  constructor <;> cases fneg a <;> cases fneg b <;> simp <;> omega

theorem fs_zero {f T : Nat} (h : fmag f = 0) : fs f T = 0 := by unfold fs; rw [h, fu_zero]; split <;> rfl

theorem fs_sgz (s : Bool) {f : Nat} (T : Nat) (h : f ≤ 9218868437227405312) : fs (sgz s + f) T = if s then -(fu f T : Int) else (fu f T : Int) := by
  obtain ⟨h1, h2⟩ := fmag_sgz s (show f < 9223372036854775808 by omega)
  unfold fs
  rw [h1, h2]
theorem rank_sgz (s : Bool) {f : Nat} (h : f ≤ 9218868437227405312) : frank (sgz s + f) = if s then -(f : Int) else (f : Int) := by
  obtain ⟨h1, h2⟩ := fmag_sgz s (show f < 9223372036854775808 by omega)
  unfold frank
  rw [h1, h2]
theorem fin_sgz2 (s : Bool) {f : Nat} (h : f ≤ 9218868437227405312) : (finB (sgz s + f) = true ↔ f < 9218868437227405312) ∧ (finB (sgz s + f) = false ↔ f = 9218868437227405312) := by
  obtain ⟨h1, h2⟩ := fmag_sgz s (show f < 9223372036854775808 by omega)
  unfold finB
  rw [h1, decide_eq_true_iff, decide_eq_false_iff_not]
  omega

/-- downward and upward: on both sides, the same or next to one another, and to nearest is one of them -/
structure Enc (S e : Int) (T lo hi near : Nat) : Prop where
  fl : finB lo = true → fs lo T ≤ vs S e T
  fh : finB hi = true → vs S e T ≤ fs hi T
  loi : finB lo = false → lo = 18442240474082181120
  hii : finB hi = false → hi = 9218868437227405312
  same : (finB lo = true ∧ fs lo T = vs S e T ∨ finB hi = true ∧ fs hi T = vs S e T) → lo = hi ∧ near = lo
  next : (finB lo = true → fs lo T ≠ vs S e T) → (finB hi = true → fs hi T ≠ vs S e T) → frank hi = frank lo + 1 ∧ (near = lo ∨ near = hi)

theorem rnd_enc {S e : Int} {T : Nat} (h : S ≠ 0) (hT : 1074 ≤ T) (he : -(T : Int) ≤ e) : Enc S e T (rnd S e 1) (rnd S e 2) (rnd S e 0) := by
  have ha := vs_abs S e T
  obtain ⟨s1, s2⟩ := vs_sign S e T
  rcases fla_spec (N := S.natAbs) (by omega) e hT he with ⟨l, h1, h2, h3⟩ | ⟨l, b, h1⟩
  · -- exact
    rw [rnd_sgz, rnd_sgz, rnd_sgz, h2, h2, h2]
    obtain ⟨f1, f2⟩ := fin_sgz2 (decide (S < 0)) (f := l) (by omega)
    have hv : fs (sgz (decide (S < 0)) + l) T = vs S e T := by
      rw [fs_sgz _ _ (by omega), h3, ← ha]
      by_cases h4 : S < 0
      · rw [decide_eq_true h4, if_pos rfl]; have := s1.2 h4; omega
      · rw [decide_eq_false h4, if_neg (by simp)]
        have : ¬ vs S e T < 0 := fun h5 => h4 (s1.1 h5)
        omega
    refine ⟨fun _ => Int.le_of_eq hv, fun _ => Int.le_of_eq hv.symm, fun h5 => by have := f2.1 h5; omega, fun h5 => by have := f2.1 h5; omega, fun _ => ⟨rfl, rfl⟩, fun h5 => absurd hv (h5 (f1.2 h1))⟩
  · rw [rnd_sgz, rnd_sgz, rnd_sgz, h1.val, h1.val, h1.val]
    have hl := h1.lt
    have hab := h1.above
    have hbe := h1.below
    have r0 : fraise (decide (S < 0)) 0 b = b := rfl
    have r1 : fraise (decide (S < 0)) 1 b = decide (S < 0) := rfl
    have r2 : fraise (decide (S < 0)) 2 b = !decide (S < 0) := rfl
    rw [r0, r1, r2]
    by_cases h4 : S < 0
    · rw [decide_eq_true h4]
      have hn := s1.2 h4
      simp only [Bool.not_true, Bool.false_eq_true, if_true, if_false, Nat.add_zero]
      obtain ⟨f1, f2⟩ := fin_sgz2 true (f := l) (by omega)
      obtain ⟨f3, f4⟩ := fin_sgz2 true (f := l + 1) (by omega)
      have v1 := fs_sgz true (f := l) T (by omega)
      have v2 := fs_sgz true (f := l + 1) T (by omega)
      have k1 := rank_sgz true (f := l) (by omega)
      have k2 := rank_sgz true (f := l + 1) (by omega)
      simp only [if_true] at v1 v2 k1 k2
      refine ⟨fun h5 => ?_, fun h5 => ?_, fun h5 => ?_, fun h5 => ?_, fun h5 => ?_, fun h5 h6 => ⟨?_, ?_⟩⟩
      · rw [v2]; have := f3.1 h5; omega
      · rw [v1]; omega
      · have := f4.1 h5; rw [this]; rfl
      · have := f2.1 h5; omega
      · exfalso
        rcases h5 with ⟨h5, h6⟩ | ⟨h5, h6⟩
        · rw [v2] at h6; have := f3.1 h5; omega
        · rw [v1] at h6; omega
      · rw [k1, k2]; omega
      · cases b
        · right; simp
        · left; simp
    · rw [decide_eq_false h4]
      have hn : ¬ vs S e T < 0 := fun h5 => h4 (s1.1 h5)
      simp only [Bool.not_false, Bool.false_eq_true, if_true, if_false, Nat.add_zero]
      obtain ⟨f1, f2⟩ := fin_sgz2 false (f := l) (by omega)
      obtain ⟨f3, f4⟩ := fin_sgz2 false (f := l + 1) (by omega)
      have v1 := fs_sgz false (f := l) T (by omega)
      have v2 := fs_sgz false (f := l + 1) T (by omega)
      have k1 := rank_sgz false (f := l) (by omega)
      have k2 := rank_sgz false (f := l + 1) (by omega)
      simp only [Bool.false_eq_true, if_false] at v1 v2 k1 k2
      refine ⟨fun h5 => ?_, fun h5 => ?_, fun h5 => ?_, fun h5 => ?_, fun h5 => ?_, fun h5 h6 => ⟨?_, ?_⟩⟩
      · rw [v1]; omega
      · rw [v2]; have := f3.1 h5; omega
      · have := f2.1 h5; omega
      · have := f4.1 h5; rw [this]; rfl
      · exfalso
        rcases h5 with ⟨h5, h6⟩ | ⟨h5, h6⟩
        · rw [v1] at h6; omega
        · rw [v2] at h6; have := f3.1 h5; omega
      · rw [k1, k2]; omega
      · cases b
        · left; simp
        · right; simp

theorem fz_mag (f : Nat) : fz (fmag f) = fz f := by
  have : fmag (fmag f) = fmag f := Nat.mod_eq_of_lt (fmag_lt f)
  unfold fz sig fsh ffld
  rw [this]

end Go.Proofs.YtecaaklbhhjcjaaGreatDoor

namespace Go.Proofs.YtecaaklbhhjcjaaGreatDoor

theorem fzs_sgi (f : Nat) : fzs f = sgi (fneg f) (fz f) := rfl
theorem fs_fzs (f : Nat) : fs f 1074 = fzs f := by
  unfold fs fzs fu
  rw [fz_mag]
  simp
theorem sgi_mul (s : Bool) (A k : Nat) : sgi s (A * 2 ^ k) = sgi s A * 2 ^ k := by
  unfold sgi
  have : ((A * 2 ^ k : Nat) : Int) = (A : Int) * 2 ^ k := by rw [Int.natCast_mul, Int.natCast_pow]; rfl
  cases s
  · simp only [Bool.false_eq_true, if_false]; exact this
  · simp only [if_true]; rw [this, Int.neg_mul]
theorem rnd_up {S : Int} (h : S ≠ 0) (k : Nat) (e mode : Int) : rnd (S * 2 ^ k) (e - k) mode = rnd S e mode := by
  have hp : (0 : Int) < 2 ^ k := Int.pow_pos (by omega)
  have e1 : decide (S * 2 ^ k < 0) = decide (S < 0) := by
    refine decide_eq_decide.2 ⟨fun h1 => ?_, fun h1 => Int.mul_neg_of_neg_of_pos h1 hp⟩
    rcases Int.lt_or_le S 0 with h2 | h2
    · exact h2
    · exact absurd (Int.mul_nonneg h2 (Int.le_of_lt hp)) (by omega)
  have e2 : (S * 2 ^ k).natAbs = S.natAbs * 2 ^ k := by rw [Int.natAbs_mul, Int.natAbs_pow]; rfl
  rw [rnd_sgz, rnd_sgz, e1, e2]
  congr 1
  exact fla_eq _ (a := 0) (b := k) mode (Nat.mul_ne_zero (by omega) (Nat.pos_iff_ne_zero.1 (Nat.pow_pos (by omega)))) (by rw [Nat.pow_zero, Nat.mul_one]) (by omega)
theorem fz_self {b : Nat} (hb : finB b = true) (hz : zeroB b = false) (hl : b < 18446744073709551616) (mode : Int) : rnd (fzs b) (-1074) mode = b := by
  have h0 : fmag b ≠ 0 := of_decide_eq_false hz
  have h1 : fmag b < 9218868437227405312 := of_decide_eq_true hb
  have h2 : fz b ≠ 0 := fun h => h0 ((fz_zero b).1 h)
  have hp := f_parts hl
  rw [fzs_sgi, rnd_sgi _ h2, fla_fz _ h0 h1]
  exact hp.symm
theorem zero_fzs {a : Nat} (h : zeroB a = true) : fzs a = 0 := by
  unfold fzs
  rw [(zero_not h).2.2.2]
  split <;> rfl
theorem nz_fzs {a : Nat} (h : zeroB a = false) : fzs a ≠ 0 := by
  have h0 : fmag a ≠ 0 := of_decide_eq_false h
  have h2 : fz a ≠ 0 := fun h => h0 ((fz_zero a).1 h)
  unfold fzs
  split <;> omega

theorem pow_low_ne : (2 : Int) ^ low74 ≠ 0 := Int.ne_of_gt (Int.pow_pos (by omega))
/-- a sum of finite floats -/
theorem add_fin {a b : Nat} (mode : Int) (ha : finB a = true) (hb : finB b = true) (hbl : b < 18446744073709551616) :
    (fzs a + fzs b = 0 → fmag (faddF a b mode) = 0) ∧ (fzs a + fzs b ≠ 0 → faddF a b mode = rnd (fzs a + fzs b) (-1074) mode) := by
  obtain ⟨a1, a2⟩ := fin_not ha
  obtain ⟨b1, b2⟩ := fin_not hb
  unfold faddF
  rw [add_form, a1, a2, b1, b2]
  simp only [Bool.or_false, Bool.false_and, Bool.false_or, Bool.false_eq_true, if_false]
  cases hza : zeroB a
  · simp only [Bool.false_and, Bool.false_eq_true, if_false]
    rw [sgi_mul, sgi_mul, ← Int.add_mul, ← fzs_sgi, ← fzs_sgi]
    unfold rsum
    constructor
    · intro h
      rw [h, if_pos (Int.zero_mul _)]
      exact (cancel_num mode).2.2
    · intro h
      rw [if_neg (Int.mul_ne_zero h pow_low_ne), show (-2148 : Int) = -1074 - (low74 : Nat) from rfl, rnd_up h]
  · cases hzb : zeroB b
    · simp only [Bool.true_and, Bool.false_and, Bool.false_eq_true, if_false, if_true]
      rw [zero_fzs hza, Int.zero_add]
      exact ⟨fun h => absurd h (nz_fzs hzb), fun _ => (fz_self hb hzb hbl mode).symm⟩
    · rw [zero_fzs hza, zero_fzs hzb]
      refine ⟨fun _ => ?_, fun h => absurd rfl h⟩
      simp only [Bool.true_and, if_true]
      split
      · exact (cancel_num mode).2.2
      · exact (zero_not hzb).2.2.1
theorem infB_rank {a : Nat} (hi : infB a = true) : frank a = (if fneg a then -9218868437227405312 else 9218868437227405312) := by
  have h : fmag a = 9218868437227405312 := of_decide_eq_true hi
  unfold frank
  rw [h]
  rfl
theorem fin_or {a : Nat} (hn : nanB a = false) : finB a = true ∨ infB a = true := by
  have h1 := nanB_not hn
  unfold finB infB
  rw [decide_eq_true_iff, decide_eq_true_iff]
  omega
theorem fneg_fzs {a : Nat} (ha : a < 18446744073709551616) (hf : finB a = true) : fzs (fnegF a) = -fzs a ∧ finB (fnegF a) = true := by
  obtain ⟨n1, n2, n3, n4, n5, -, -, n8⟩ := neg_facts ha (fin_not hf).1
  constructor
  · rw [fzs_sgi, fzs_sgi, n4, n5, sgi_not]
  · unfold finB at hf ⊢; rw [n8]; exact hf

end Go.Proofs.YtecaaklbhhjcjaaGreatDoor

namespace Go.Proofs.YtecaaklbhhjcjaaGreatDoor
open Go.RowKit

theorem blen_spec {a : Nat} (h : a ≠ 0) : ∃ l, blen a = l + 1 ∧ 2 ^ l ≤ a ∧ a < 2 ^ (l + 1) := by
  refine ⟨Nat.log2 a, by unfold blen; rw [if_neg h], Nat.log2_self_le h, Nat.lt_log2_self⟩

theorem blen_limbs {a e : Nat} (h : a < 4294967296 ^ e) : blen a ≤ 32 * e := by
  rw [show 4294967296 ^ e = 2 ^ (32 * e) by rw [Nat.pow_mul]] at h
  by_cases h0 : a = 0
  · unfold blen; rw [if_pos h0]; omega
  · have h1 : blen a = Nat.log2 a + 1 := by unfold blen; rw [if_neg h0]
    have h2 := (Nat.log2_lt h0).2 h
    omega

theorem pow_limbs {k e : Nat} (h : k ≤ 32 * e) : 2 ^ k ≤ 4294967296 ^ e := by
  rw [show 4294967296 ^ e = 2 ^ (32 * e) by rw [Nat.pow_mul]]
  exact Nat.pow_le_pow_right (by omega) h

end Go.Proofs.YtecaaklbhhjcjaaGreatDoor

namespace Go.Proofs.YtecaaklbhhjcjaaGreatDoor

/-- how often 2 divides a, 0 for zero -/
def tzf (a : Nat) : Nat := if h : a = 0 ∨ a % 2 = 1 then 0 else tzf (a / 2) + 1
termination_by a
decreasing_by omega

theorem tzf_isTz (a : Nat) : IsTz a (tzf a) := by
  induction a using Nat.strongRecOn with
  | _ a ih =>
    rw [tzf]
    by_cases h0 : a = 0
    · rw [dif_pos (Or.inl h0)]; exact Or.inl ⟨h0, rfl⟩
    · by_cases h1 : a % 2 = 1
      · rw [dif_pos (Or.inr h1)]; exact Or.inr ⟨h0, a / 2, by rw [Nat.pow_zero]; omega⟩
      · rw [dif_neg (by omega)]
        rcases ih (a / 2) (by omega) with ⟨h2, _⟩ | ⟨_, m, hm⟩
        · omega
        · refine Or.inr ⟨h0, m, ?_⟩
          rw [Nat.pow_succ, Nat.mul_assoc, Nat.mul_left_comm, ← hm]; omega

theorem tzf_of {a t : Nat} (h : IsTz a t) : t = tzf a := h.unique (tzf_isTz a)
theorem tzf_zero : tzf 0 = 0 := by rw [tzf]; simp
theorem tzf_odd {a : Nat} (h : a % 2 = 1) : tzf a = 0 := by rw [tzf]; simp [h]
theorem tzf_mul {a : Nat} (h : a ≠ 0) (k : Nat) : tzf (a * 2 ^ k) = tzf a + k := ((tzf_of ((tzf_isTz a).mul h k))).symm

theorem two_pos (k : Nat) : (0 : Int) < 2 ^ k := Int.pow_pos (by omega)
theorem natAbs_shift (x : Int) (k : Nat) : (x * 2 ^ k).natAbs = x.natAbs * 2 ^ k := by rw [Int.natAbs_mul, Int.natAbs_pow]; rfl
theorem mul_two_ne {x : Int} (h : x ≠ 0) (k : Nat) : x * 2 ^ k ≠ 0 := Int.mul_ne_zero h (Int.ne_of_gt (two_pos k))

/-- the odd part -/
theorem odd_part {x : Int} (h : x ≠ 0) : ∃ m, x = m * 2 ^ tzf x.natAbs ∧ m.natAbs % 2 = 1 ∧ x / 2 ^ tzf x.natAbs = m := by
  rcases tzf_isTz x.natAbs with ⟨h0, _⟩ | ⟨_, q, hq⟩
  · omega
  · generalize tzf x.natAbs = t at *
    have hp := two_pos t
    rcases Int.lt_or_gt_of_ne h with hx | hx
    · have e : x = (-(2 * (q : Int) + 1)) * 2 ^ t := by
        have : x = -(x.natAbs : Int) := by omega
        rw [this, hq]; push_cast; rw [Int.neg_mul, Int.mul_comm]
      exact ⟨_, e, by omega, by rw [e, Int.mul_ediv_cancel _ (Int.ne_of_gt hp)]⟩
    · have e : x = (2 * (q : Int) + 1) * 2 ^ t := by
        have : x = (x.natAbs : Int) := by omega
        rw [this, hq]; push_cast; rw [Int.mul_comm]
      exact ⟨_, e, by omega, by rw [e, Int.mul_ediv_cancel _ (Int.ne_of_gt hp)]⟩

/-- a dyad: none if it is not representable, otherwise the odd integer and the exponent (or two zeros) -/
abbrev Dy := Option (Int × Int)

/-- x times 2 to the power e, normalized -/
def dmk (x e : Int) : Dy :=
  if x = 0 then some (0, 0) else
  if e < -65536 - (tzf x.natAbs : Int) ∨ 65536 - (blen x.natAbs : Int) < e then none else some (x / 2 ^ tzf x.natAbs, e + tzf x.natAbs)

theorem dmk_zero (e : Int) : dmk 0 e = some (0, 0) := by simp [dmk]
theorem dmk_shift (x e : Int) (k : Nat) : dmk (x * 2 ^ k) e = dmk x (e + k) := by
  by_cases h : x = 0
  · subst h; simp [dmk]
  · have hn : x.natAbs ≠ 0 := by omega
    unfold dmk
    rw [if_neg h, if_neg (mul_two_ne h k), natAbs_shift, tzf_mul hn, blen_mul hn]
    have e1 : x * 2 ^ k / 2 ^ (tzf x.natAbs + k) = x / 2 ^ tzf x.natAbs := by
      rw [Int.pow_add, Int.mul_ediv_mul_of_pos_left _ _ (two_pos k)]
    rw [e1]
    by_cases hc : e < -65536 - ((tzf x.natAbs + k : Nat) : Int) ∨ 65536 - ((blen x.natAbs + k : Nat) : Int) < e
    · rw [if_pos hc, if_pos (by omega)]
    · rw [if_neg hc, if_neg (by omega)]
      congr 2; omega

/-- in normalized form -/
def Nd : Dy → Prop
  | none => True
  | some (m, e) => (m = 0 ∧ e = 0) ∨ (m.natAbs % 2 = 1 ∧ -65536 ≤ e ∧ e + blen m.natAbs ≤ 65536)

theorem dmk_nd (x e : Int) : Nd (dmk x e) := by
  unfold dmk
  by_cases h : x = 0
  · rw [if_pos h]; exact Or.inl ⟨rfl, rfl⟩
  · rw [if_neg h]
    split
    · trivial
    · rename_i hc
      obtain ⟨m, h1, h2, h3⟩ := odd_part h
      refine Or.inr ?_
      rw [h3]
      have hb : blen x.natAbs = blen m.natAbs + tzf x.natAbs := by
        conv => lhs; rw [h1]
        rw [natAbs_shift, blen_mul (by omega)]
      refine ⟨h2, by omega, by omega⟩

theorem dmk_norm {m e : Int} (h : Nd (some (m, e))) : dmk m e = some (m, e) := by
  rcases h with ⟨rfl, rfl⟩ | ⟨h1, h2, h3⟩
  · exact dmk_zero 0
  · unfold dmk
    rw [if_neg (by omega), tzf_odd h1, if_neg (by omega)]
    simp

/-- the integer in units of 2^-65536; not for none -/
def sc : Dy → Int
  | none => 0
  | some (m, e) => m * 2 ^ (e + 65536).toNat

/-- the sum, the product, the opposite -/
def dadd : Dy → Dy → Dy
  | some p, some q => dmk (sc (some p) + sc (some q)) (-65536)
  | _, _ => none
def dmul : Dy → Dy → Dy
  | some p, some q => dmk (p.1 * q.1) (p.2 + q.2)
  | _, _ => none
def dneg : Dy → Dy
  | some p => some (-p.1, p.2)
  | none => none
theorem dneg_nd {d : Dy} (h : Nd d) : Nd (dneg d) := by
  cases d with
  | none => trivial
  | some p =>
    rcases h with ⟨h1, h2⟩ | ⟨h1, h2, h3⟩
    · exact Or.inl ⟨by simp [h1], h2⟩
    · exact Or.inr ⟨by simpa using h1, h2, by simpa using h3⟩
/-- d is valid, and N in units of 2^-S -/
def Is (d : Dy) (S : Nat) (N : Int) : Prop := ∃ m e, d = some (m, e) ∧ Nd d ∧ 0 ≤ e + S ∧ N = m * 2 ^ (e + S).toNat

theorem Is.nd {d : Dy} {S : Nat} {N : Int} (h : Is d S N) : Nd d := by obtain ⟨_, _, _, h, _⟩ := h; exact h
theorem Is.mk {d : Dy} {S : Nat} {N : Int} (h : Is d S N) : d = dmk N (-S) := by
  obtain ⟨m, e, rfl, h1, h2, rfl⟩ := h
  rw [dmk_shift, show (-(S : Int)) + (e + S).toNat = e by omega, dmk_norm h1]
theorem Is.unique {d d' : Dy} {S : Nat} {N : Int} (h : Is d S N) (h' : Is d' S N) : d = d' := by rw [h.mk, h'.mk]
theorem blen_le_of_lt {a k : Nat} (h : a < 2 ^ k) : blen a ≤ k := by
  by_cases h0 : a = 0
  · subst h0; simp [blen]
  · obtain ⟨l, h1, h2, _⟩ := blen_spec h0
    rw [h1]
    have : 2 ^ l < 2 ^ k := by omega
    exact (Nat.pow_lt_pow_iff_right (by omega)).1 this

/-- what is far from the limits is representable -/
theorem Is.of_dmk {N : Int} {S B : Nat} (hS : S ≤ 65536) (hN : N.natAbs < 2 ^ B) (hB : B ≤ 65536) : Is (dmk N (-S)) S N := by
  by_cases h : N = 0
  · subst h; rw [dmk_zero]; exact ⟨0, 0, rfl, Or.inl ⟨rfl, rfl⟩, by omega, by simp⟩
  · have hb := blen_le_of_lt hN
    have hnd := dmk_nd N (-S)
    obtain ⟨m, h1, h2, h3⟩ := odd_part h
    have e : dmk N (-(S : Int)) = some (m, -(S : Int) + (tzf N.natAbs : Int)) := by
      unfold dmk
      rw [if_neg h, if_neg (by omega), h3]
    rw [e] at hnd ⊢
    refine ⟨_, _, rfl, hnd, by omega, ?_⟩
    rw [show (-(S : Int) + (tzf N.natAbs : Int) + S).toNat = tzf N.natAbs by omega]
    exact h1

theorem sc_is {d : Dy} {S : Nat} {N : Int} (h : Is d S N) (hS : S ≤ 65536) : sc d = N * 2 ^ (65536 - S) := by
  obtain ⟨m, e, rfl, h1, h2, rfl⟩ := h
  unfold sc
  simp only
  rw [show (e + 65536).toNat = (e + S).toNat + (65536 - S) by omega, Int.pow_add, Int.mul_assoc]

theorem Is.add {d d' : Dy} {S : Nat} {N M : Int} (h : Is d S N) (h' : Is d' S M) (hS : S ≤ 65536) {B : Nat} (hb : (N + M).natAbs < 2 ^ B) (hB : B ≤ 65536) : Is (dadd d d') S (N + M) := by
  have e : dadd d d' = dmk (N + M) (-S) := by
    have a := sc_is h hS
    have b := sc_is h' hS
    obtain ⟨m, x, rfl, _⟩ := h
    obtain ⟨n, y, rfl, _⟩ := h'
    show dmk (sc _ + sc _) _ = _
    rw [a, b, ← Int.add_mul, dmk_shift]
    congr 1; omega
  rw [e]
  exact Is.of_dmk hS hb hB

theorem Is.neg {d : Dy} {S : Nat} {N : Int} (h : Is d S N) : Is (dneg d) S (-N) := by
  have hd := dneg_nd h.nd
  obtain ⟨m, e, rfl, h1, h2, rfl⟩ := h
  exact ⟨-m, e, rfl, hd, h2, by rw [Int.neg_mul]⟩
theorem Is.mul {d d' : Dy} {S T : Nat} {N M : Int} (h : Is d S N) (h' : Is d' T M) (hS : S + T ≤ 65536) {B : Nat} (hb : (N * M).natAbs < 2 ^ B) (hB : B ≤ 65536) : Is (dmul d d') (S + T) (N * M) := by
  have e : dmul d d' = dmk (N * M) (-((S + T : Nat) : Int)) := by
    obtain ⟨m, x, rfl, _, h2, rfl⟩ := h
    obtain ⟨n, y, rfl, _, h2', rfl⟩ := h'
    show dmk (m * n) (x + y) = _
    have : m * 2 ^ (x + S).toNat * (n * 2 ^ (y + T).toNat) = m * n * 2 ^ ((x + S).toNat + (y + T).toNat) := by
      rw [Int.pow_add, Int.mul_assoc, Int.mul_left_comm (2 ^ (x + S).toNat), ← Int.mul_assoc]
    rw [this, dmk_shift]
    congr 1; omega
  rw [e]
  exact Is.of_dmk hS hb hB

theorem Is.zero {d : Dy} {S : Nat} {N : Int} (h : Is d S N) : (∃ m e, d = some (m, e) ∧ (m = 0 ↔ N = 0) ∧ (m < 0 ↔ N < 0)) := by
  obtain ⟨m, e, rfl, h1, h2, rfl⟩ := h
  have hp := two_pos (e + S).toNat
  refine ⟨m, e, rfl, ⟨fun h => by rw [h, Int.zero_mul], fun h => ?_⟩, ⟨fun h => Int.mul_neg_of_neg_of_pos h hp, fun h => ?_⟩⟩
  · rcases Int.mul_eq_zero.1 h with h | h <;> omega
  · rcases Int.lt_or_le m 0 with h3 | h3
    · exact h3
    · have := Int.mul_nonneg h3 (Int.le_of_lt hp); omega
end Go.Proofs.YtecaaklbhhjcjaaGreatDoor

namespace Go.Proofs.YtecaaklbhhjcjaaGreatDoor
/-- d times 2 to the power n; a shift by 131072 leads out of the range -/
def dscale (d : Dy) (n : Int) : Dy := match d with
  | none => none
  | some (m, e) => dmk m (e + max (-131072) (min n 131072))

end Go.Proofs.YtecaaklbhhjcjaaGreatDoor
