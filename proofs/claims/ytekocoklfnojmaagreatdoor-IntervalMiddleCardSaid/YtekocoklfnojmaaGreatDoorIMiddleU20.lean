import Derived.Test.YtekocoklfnojmaaGreatDoorIMiddleU5
import Derived.Test.YtekocoklfnojmaaGreatDoorIMiddleU17
import Derived.Test.YtekocoklfnojmaaGreatDoorIMiddleU18
import Derived.Test.YtekocoklfnojmaaGreatDoorIMiddleU19
import Derived.WalkKit
import Derived.WalkSmall
import Derived.Lib.Hide
import Derived.Test.YtekocoklfnojmaaGreatDoorIMiddleU6
import Derived.Test.YtekocoklfnojmaaGreatDoorIMiddleU13
namespace Go.Proofs.YtekocoklfnojmaaGreatDoor
open Go.RowKit

theorem nanB_not {f : Nat} (h : nanB f = false) : fmag f ≤ 9218868437227405312 := by
  have := of_decide_eq_false h
  omega
theorem neg_rank {f : Nat} (hf : f < 18446744073709551616) (hn : nanB f = false) : nanB (fnegF f) = false ∧ frank (fnegF f) = - frank f ∧ (fnegF f = 9218868437227405312 → frank f = -9218868437227405312) := by
  have hp := f_parts hf
  have hm := nanB_not hn
  have hl := fmag_lt f
  unfold fnegF
  rw [if_neg (by rw [hn]; simp)]
  cases hs : fneg f
  · rw [hs] at hp
    have e1 : fneg (sgz (!false) + fmag f) = true := by unfold fneg sgz; simp
    have e2 : fmag (sgz (!false) + fmag f) = fmag f := by unfold fmag sgz; simp <;> omega
    refine ⟨decide_eq_false (by rw [e2]; omega), ?_, ?_⟩
    · unfold frank; rw [e1, e2, hs]; simp
    · unfold sgz; simp <;> omega
  · rw [hs] at hp
    have e1 : fneg (sgz (!true) + fmag f) = false := by unfold fneg sgz; simp <;> omega
    have e2 : fmag (sgz (!true) + fmag f) = fmag f := by unfold fmag sgz; simp <;> omega
    refine ⟨decide_eq_false (by rw [e2]; omega), ?_, ?_⟩
    · unfold frank; rw [e1, e2, hs]; simp
    · intro h
      unfold frank
      rw [hs, if_pos rfl]
      unfold sgz at h
      simp at h
      omega

/-- the results of Cmp -/
def FcmpOut (a b : Nat) (s : Int) (ok : Bool) : Prop := if nanB a || nanB b then s = 0 ∧ ok = false else s = sgn3 (frank a) (frank b) ∧ ok = true
theorem fcmp_nan {a b : Nat} (h : nanB a = true ∨ nanB b = true) : FcmpOut a b 0 false := by
  unfold FcmpOut
  rw [if_pos (by rcases h with h | h <;> simp [h])]
  exact ⟨rfl, rfl⟩
theorem fcmp_num {a b : Nat} {s : Int} (ha : nanB a = false) (hb : nanB b = false) (hs : sgn3 (frank a) (frank b) = s) : FcmpOut a b s true := by
  unfold FcmpOut
  rw [if_neg (by simp [ha, hb])]
  exact ⟨hs.symm, rfl⟩

set_option maxRecDepth 100000 in
set_option maxHeartbeats 400000 in
theorem compare64_any (x y : Int) (w : World) : Calls Tryz.prog 115 #[.int .i64 x, .int .i64 y] w fun e w' => e = .returned (.int .i64 (sgn3 x y)) ∧ w = w' := by
  have hx : (x != x) = false := by simp
  have hy : (y != y) = false := by simp
  by_cases h1 : x < y
  · have e : sgn3 x y = -1 := by simp [sgn3, h1]
    have E := Lib.hid e; clear e
    go_enter Tryz.func115, Tryz.ntmps115
    go_wp2_with go_in
    go_ret
    exact ⟨by rw [E.out]; rfl, rfl⟩
  · by_cases h2 : y < x
    · have e : sgn3 x y = 1 := by simp [sgn3, h1, h2]
      have E := Lib.hid e; clear e
      go_enter Tryz.func115, Tryz.ntmps115
      go_wp2_with go_in
      go_ret
      exact ⟨by rw [E.out]; rfl, rfl⟩
    · have e : sgn3 x y = 0 := by simp [sgn3, h1, h2]
      have E := Lib.hid e; clear e
      go_enter Tryz.func115, Tryz.ntmps115
      go_wp2_with go_in
      go_ret
      exact ⟨by rw [E.out]; rfl, rfl⟩

set_option maxRecDepth 100000 in
set_option maxHeartbeats 1000000 in
theorem fcmp_any (a b : Nat) (ha : a < 18446744073709551616) (hb : b < 18446744073709551616) (s : Int) (ok : Bool) (h : FcmpOut a b s ok) (w : World) :
    Calls Tryz.prog 53 #[.int .u64 (a : Int), .int .u64 (b : Int)] w fun e w' => e = .returned (.tuple #[.int .i64 s, .bool ok]) ∧ Ext w w' := by
  unfold FcmpOut at h
  obtain ⟨na, hna⟩ : ∃ na, nanB a = na := ⟨_, rfl⟩
  obtain ⟨nb, hnb⟩ : ∃ nb, nanB b = nb := ⟨_, rfl⟩
  rw [hna, hnb] at h
  have HA := Lib.hid hna; clear hna
  have HB := Lib.hid hnb; clear hnb
  cases na with
  | true =>
    simp only [Bool.true_or, if_true] at h
    obtain ⟨rfl, rfl⟩ := h
    go_enter Tryz.func53, Tryz.ntmps53
    go_wp2_with (go_at_call 110; refine (isNaN_any a ha _).mono ?_; rw [HA.out]; rintro e w' ⟨rfl, rfl⟩)
    go_ret2
    exact ⟨rfl, Below.refl _ _⟩
  | false =>
    cases nb with
    | true =>
      simp only [Bool.false_or, if_true] at h
      obtain ⟨rfl, rfl⟩ := h
      go_enter Tryz.func53, Tryz.ntmps53
      go_wp2_with fail
      refine (isNaN_any a ha _).mono ?_
      rw [HA.out]
      rintro e w' ⟨rfl, rfl⟩
      go_wp2_with fail
      refine (isNaN_any b hb _).mono ?_
      rw [HB.out]
      rintro e w' ⟨rfl, rfl⟩
      go_wp2
      go_ret2
      exact ⟨rfl, Below.refl _ _⟩
    | false =>
      simp only [Bool.or_self, Bool.false_eq_true, if_false] at h
      obtain ⟨hs, rfl⟩ := h
      have ra := rank_any a ha
      have rb := rank_any b hb
      generalize frank a = x at *
      generalize frank b = y at *
      have RA := Lib.hid ra; clear ra
      have RB := Lib.hid rb; clear rb
      subst hs
      have HC := Lib.hid (compare64_any x y)
      generalize sgn3 x y = s at *
      go_enter Tryz.func53, Tryz.ntmps53
      go_wp2_with fail
      refine (isNaN_any a ha _).mono ?_
      rw [HA.out]
      rintro e w' ⟨rfl, rfl⟩
      go_wp2_with fail
      refine (isNaN_any b hb _).mono ?_
      rw [HB.out]
      rintro e w' ⟨rfl, rfl⟩
      go_wp2_with fail
      refine (RA.out _).mono ?_
      rintro e w' ⟨rfl, rfl⟩
      go_wp2_with fail
      refine (RB.out _).mono ?_
      rintro e w' ⟨rfl, rfl⟩
      go_wp2_with fail
      refine (HC.out _).mono ?_
      rintro e w' ⟨rfl, rfl⟩
      go_wp2
      go_ret2
      exact ⟨rfl, Below.refl _ _⟩
end Go.Proofs.YtekocoklfnojmaaGreatDoor

namespace Go.Proofs.YtekocoklfnojmaaGreatDoor

theorem fmag_sgz (s : Bool) {f : Nat} (h : f < 9223372036854775808) : fmag (sgz s + f) = f ∧ fneg (sgz s + f) = s := by
  unfold fmag fneg sgz
  cases s
  · exact ⟨by simp; omega, by simp; omega⟩
  · exact ⟨by simp; omega, by simp⟩
/-- negating a number that is no NaN -/
theorem fnegF_sgz (s : Bool) {f : Nat} (h : f ≤ 9218868437227405312) : fnegF (sgz s + f) = sgz (!s) + f := by
  obtain ⟨h1, h2⟩ := fmag_sgz s (show f < 9223372036854775808 by omega)
  unfold fnegF nanB
  rw [h1, h2, decide_eq_false (by omega)]
  rfl
theorem fneg_parts {a : Nat} (ha : a < 18446744073709551616) (hn : nanB a = false) : ∃ s m, m ≤ 9218868437227405312 ∧ a = sgz s + m ∧ fnegF a = sgz (!s) + m ∧ fneg a = s ∧ fmag a = m := by
  have h1 := nanB_not hn
  have h2 := f_parts ha
  refine ⟨fneg a, fmag a, h1, h2, ?_, rfl, rfl⟩
  have := fnegF_sgz (fneg a) h1
  rwa [← h2] at this
theorem neg_facts {a : Nat} (ha : a < 18446744073709551616) (hn : nanB a = false) : nanB (fnegF a) = false ∧ infB (fnegF a) = infB a ∧ zeroB (fnegF a) = zeroB a ∧ fz (fnegF a) = fz a ∧ fneg (fnegF a) = !(fneg a) ∧ sig (fnegF a) = sig a ∧ fsh (fnegF a) = fsh a ∧ fmag (fnegF a) = fmag a := by
  obtain ⟨s, m, h1, h2, h3, h4, h5⟩ := fneg_parts ha hn
  obtain ⟨g1, g2⟩ := fmag_sgz (!s) (show m < 9223372036854775808 by omega)
  have e1 : fmag (fnegF a) = fmag a := by rw [h3, h5, g1]
  have e2 : fneg (fnegF a) = !(fneg a) := by rw [h3, h4, g2]
  have e3 : sig (fnegF a) = sig a := by unfold sig ffld; rw [e1]
  have e4 : fsh (fnegF a) = fsh a := by unfold fsh ffld; rw [e1]
  refine ⟨?_, ?_, ?_, ?_, e2, e3, e4, e1⟩
  · unfold nanB at hn ⊢; rw [e1, hn]
  · unfold infB; rw [e1]
  · unfold zeroB; rw [e1]
  · unfold fz; rw [e3, e4]
theorem sgi_not (s : Bool) (A : Nat) : sgi (!s) A = - sgi s A := by unfold sgi; cases s <;> simp
end Go.Proofs.YtekocoklfnojmaaGreatDoor

namespace Go.Proofs.YtekocoklfnojmaaGreatDoor

/-- what rounding a magnitude gives: the greatest float that is not greater, or the next one -/
theorem fla_near {N : Nat} (h0 : N ≠ 0) (e : Int) {T : Nat} (hT : 1074 ≤ T) (he : -(T : Int) ≤ e) (neg : Bool) (mode : Int) : ∃ lo b, (Rx N e T lo ∧ fla neg N e false mode = lo) ∨ (Rd N e T lo b ∧ fla neg N e false mode = lo + (if fraise neg mode b then 1 else 0)) := by
  rcases fla_spec h0 e hT he with ⟨lo, h⟩ | ⟨lo, b, h⟩
  · exact ⟨lo, false, Or.inl ⟨h, h.2.1 neg mode⟩⟩
  · exact ⟨lo, b, Or.inr ⟨h, h.val neg mode⟩⟩

theorem fla_mono {N N' : Nat} (h0 : N ≠ 0) (h0' : N' ≠ 0) (e e' : Int) {T : Nat} (hT : 1074 ≤ T) (he : -(T : Int) ≤ e) (he' : -(T : Int) ≤ e') (h : vu N e T ≤ vu N' e' T) (neg : Bool) (mode : Int) : fla neg N e false mode ≤ fla neg N' e' false mode := by
  obtain ⟨lo, b, h1⟩ := fla_near h0 e hT he neg mode
  obtain ⟨lo', b', h2⟩ := fla_near h0' e' hT he' neg mode
  have hle : lo ≤ lo' := by
    rcases Nat.lt_or_ge lo' lo with h3 | h3
    · exfalso
      have hlt : lo < 9218868437227405312 := by
        rcases h1 with ⟨h1, _⟩ | ⟨h1, _⟩
        · exact h1.1
        · exact h1.lt
      have g1 : fu lo T ≤ vu N e T := by
        rcases h1 with ⟨h1, _⟩ | ⟨h1, _⟩
        · exact Nat.le_of_eq h1.2.2
        · exact Nat.le_of_lt h1.above
      have g2 : vu N' e' T < fu (lo' + 1) T := by
        rcases h2 with ⟨h2, _⟩ | ⟨h2, _⟩
        · rw [← h2.2.2]; exact fu_lt (by omega) (by omega)
        · rcases h2.below with h4 | h4
          · omega
          · exact h4
      have g3 : fu (lo' + 1) T ≤ fu lo T := fu_le (by omega) (by omega)
      omega
    · exact h3
  rcases h1 with ⟨h1, e1⟩ | ⟨h1, e1⟩
  · rw [e1]
    rcases h2 with ⟨h2, e2⟩ | ⟨h2, e2⟩ <;> rw [e2] <;> omega
  · rcases Nat.lt_or_ge lo lo' with h3 | h3
    · rw [e1]
      have : lo + (if fraise neg mode b then 1 else 0) ≤ lo + 1 := by split <;> omega
      rcases h2 with ⟨h2, e2⟩ | ⟨h2, e2⟩ <;> rw [e2] <;> omega
    · obtain rfl : lo = lo' := by omega
      rcases h2 with ⟨h2, e2⟩ | ⟨h2, e2⟩
      · exfalso
        have := h1.above
        have := h2.2.2
        omega
      · rw [e1, e2]
        have hb : b = true → b' = true := by
          intro hb
          subst hb
          rcases h1.near with ⟨_, n1⟩ | ⟨n1, _⟩ | ⟨n1, n2⟩
          · rcases h2.near with ⟨n3, _⟩ | ⟨_, n3⟩ | ⟨n3, _⟩
            · exact n3
            · omega
            · omega
          · cases n1
          · rcases h2.near with ⟨n3, _⟩ | ⟨_, n3⟩ | ⟨n3, n4⟩
            · exact n3
            · omega
            · rw [n4, ← n2]
        unfold fraise
        cases b with
        | true => rw [hb rfl]; exact Nat.le_refl _
        | false => cases b' <;> repeat' split <;> first | omega | simp_all

/-- the value of a number with its sign -/
def vs (S : Int) (e : Int) (T : Nat) : Int := S * 2 ^ (e + T).toNat
/-- .. of a float -/
def fs (f T : Nat) : Int := if fneg f then -(fu (fmag f) T : Int) else (fu (fmag f) T : Int)

theorem vs_abs (S e : Int) (T : Nat) : (vs S e T).natAbs = vu S.natAbs e T := by
  unfold vs vu
  rw [Int.natAbs_mul, Int.natAbs_pow]
  rfl
theorem vs_sign (S e : Int) (T : Nat) : (vs S e T < 0 ↔ S < 0) ∧ (vs S e T = 0 ↔ S = 0) := by
  unfold vs
  have hp : (0 : Int) < 2 ^ (e + T).toNat := Int.pow_pos (by omega)
  generalize (2 : Int) ^ (e + T).toNat = p at *
  constructor
  · constructor
    · intro h
      rcases Int.lt_or_le S 0 with h1 | h1
      · exact h1
      · exact absurd (Int.mul_nonneg h1 (Int.le_of_lt hp)) (by omega)
    · intro h; exact Int.mul_neg_of_neg_of_pos h hp
  · constructor
    · intro h
      rcases Int.mul_eq_zero.1 h with h1 | h1
      · exact h1
      · omega
    · rintro rfl; exact Int.zero_mul _

theorem rnd_sgz (S e mode : Int) : rnd S e mode = sgz (decide (S < 0)) + fla (decide (S < 0)) S.natAbs e false mode := rfl
theorem rnd_facts (S e mode : Int) : nanB (rnd S e mode) = false ∧ rnd S e mode < 18446744073709551616 ∧ fneg (rnd S e mode) = decide (S < 0) ∧ fmag (rnd S e mode) = fla (decide (S < 0)) S.natAbs e false mode := by
  have h := fla_le (decide (S < 0)) S.natAbs e false mode
  obtain ⟨h1, h2⟩ := fmag_sgz (decide (S < 0)) (show fla (decide (S < 0)) S.natAbs e false mode < 9223372036854775808 by omega)
  exact ⟨(nan_mag _ h).1, (nan_mag _ h).2, h2, h1⟩

/-- a dyad's number rounded: zero is +0 -/
def rz (S e mode : Int) : Nat := if S = 0 then 0 else rnd S e mode
theorem rz_facts (S e mode : Int) : nanB (rz S e mode) = false ∧ rz S e mode < 18446744073709551616 := by
  unfold rz
  split
  · decide
  · exact ⟨(rnd_facts S e mode).1, (rnd_facts S e mode).2.1⟩
theorem rank_sign (S e mode : Int) : (S < 0 → frank (rz S e mode) = -(fla true S.natAbs e false mode : Int)) ∧ (0 < S → frank (rz S e mode) = (fla false S.natAbs e false mode : Int)) ∧ (S = 0 → frank (rz S e mode) = 0) := by
  refine ⟨fun h => ?_, fun h => ?_, fun h => ?_⟩
  · unfold rz; rw [if_neg (by omega)]
    obtain ⟨-, -, h3, h4⟩ := rnd_facts S e mode
    unfold frank
    rw [h3, h4, decide_eq_true h, if_pos rfl]
  · unfold rz; rw [if_neg (by omega)]
    obtain ⟨-, -, h3, h4⟩ := rnd_facts S e mode
    unfold frank
    rw [h3, h4, decide_eq_false (by omega), if_neg (by simp)]
  · unfold rz; rw [if_pos h]; decide

theorem rz_mono {S S' e e' : Int} {T : Nat} (hT : 1074 ≤ T) (he : -(T : Int) ≤ e) (he' : -(T : Int) ≤ e') (h : vs S e T ≤ vs S' e' T) (mode : Int) : frank (rz S e mode) ≤ frank (rz S' e' mode) := by
  obtain ⟨r1, r2, r3⟩ := rank_sign S e mode
  obtain ⟨q1, q2, q3⟩ := rank_sign S' e' mode
  obtain ⟨s1, s2⟩ := vs_sign S e T
  obtain ⟨s3, s4⟩ := vs_sign S' e' T
  have a1 := vs_abs S e T
  have a2 := vs_abs S' e' T
  rcases Int.lt_trichotomy S 0 with h1 | h1 | h1
  · rw [r1 h1]
    rcases Int.lt_trichotomy S' 0 with h2 | h2 | h2
    · rw [q1 h2]
      have := fla_mono (N := S'.natAbs) (N' := S.natAbs) (by omega) (by omega) e' e hT he' he (by rw [← a1, ← a2]; omega) true mode
      omega
    · rw [q3 h2]; omega
    · rw [q2 h2]; omega
  · rw [r3 h1]
    have h2 : ¬ S' < 0 := by rw [← s3]; have := s2.2 h1; omega
    rcases Int.lt_or_eq_of_le (show 0 ≤ S' by omega) with h3 | h3
    · rw [q2 h3]; omega
    · rw [q3 h3.symm]; exact Int.le_refl _
  · rw [r2 h1]
    have h2 : 0 < S' := by omega
    rw [q2 h2]
    have := fla_mono (N := S.natAbs) (N' := S'.natAbs) (by omega) (by omega) e e' hT he he' (by rw [← a1, ← a2]; omega) false mode
    omega

/-- the floats' order is that of their values -/
theorem fs_rank {a b T : Nat} (ha : nanB a = false) (hb : nanB b = false) : (fs a T < fs b T ↔ frank a < frank b) ∧ (fs a T = fs b T ↔ frank a = frank b) := by
  have h1 := nanB_not ha
  have h2 := nanB_not hb
  have l1 := fu_lt_iff (T := T) h1 h2
  have l2 := fu_lt_iff (T := T) h2 h1
  have z1 := fu_lt_iff (T := T) (show 0 ≤ 9218868437227405312 by omega) h1
  have z2 := fu_lt_iff (T := T) (show 0 ≤ 9218868437227405312 by omega) h2
  rw [fu_zero] at z1 z2
  unfold fs frank
  constructor <;> cases fneg a <;> cases fneg b <;> simp <;> omega

theorem fs_sgz (s : Bool) {f : Nat} (T : Nat) (h : f ≤ 9218868437227405312) : fs (sgz s + f) T = if s then -(fu f T : Int) else (fu f T : Int) := by
  obtain ⟨h1, h2⟩ := fmag_sgz s (show f < 9223372036854775808 by omega)
  unfold fs
  rw [h1, h2]
theorem rank_sgz (s : Bool) {f : Nat} (h : f ≤ 9218868437227405312) : frank (sgz s + f) = if s then -(f : Int) else (f : Int) := by
  obtain ⟨h1, h2⟩ := fmag_sgz s (show f < 9223372036854775808 by omega)
  unfold frank
  rw [h1, h2]
theorem fin_sgz2 (s : Bool) {f : Nat} (h : f ≤ 9218868437227405312) : (finB (sgz s + f) = true ↔ f < 9218868437227405312) ∧ (finB (sgz s + f) = false ↔ f = 9218868437227405312) := by
  obtain ⟨h1, h2⟩ := fmag_sgz s (show f < 9223372036854775808 by omega)
  unfold finB
  rw [h1, decide_eq_true_iff, decide_eq_false_iff_not]
  omega

/-- downward and upward: on both sides, the same or next to one another, and to nearest is one of them -/
structure Enc (S e : Int) (T lo hi near : Nat) : Prop where
  fl : finB lo = true → fs lo T ≤ vs S e T
  fh : finB hi = true → vs S e T ≤ fs hi T
  loi : finB lo = false → lo = 18442240474082181120
  hii : finB hi = false → hi = 9218868437227405312
  same : (finB lo = true ∧ fs lo T = vs S e T ∨ finB hi = true ∧ fs hi T = vs S e T) → lo = hi ∧ near = lo
  next : (finB lo = true → fs lo T ≠ vs S e T) → (finB hi = true → fs hi T ≠ vs S e T) → frank hi = frank lo + 1 ∧ (near = lo ∨ near = hi)

theorem rnd_enc {S e : Int} {T : Nat} (h : S ≠ 0) (hT : 1074 ≤ T) (he : -(T : Int) ≤ e) : Enc S e T (rnd S e 1) (rnd S e 2) (rnd S e 0) := by
  have ha := vs_abs S e T
  obtain ⟨s1, s2⟩ := vs_sign S e T
  rcases fla_spec (N := S.natAbs) (by omega) e hT he with ⟨l, h1, h2, h3⟩ | ⟨l, b, h1⟩
  · -- exact
    rw [rnd_sgz, rnd_sgz, rnd_sgz, h2, h2, h2]
    obtain ⟨f1, f2⟩ := fin_sgz2 (decide (S < 0)) (f := l) (by omega)
    have hv : fs (sgz (decide (S < 0)) + l) T = vs S e T := by
      rw [fs_sgz _ _ (by omega), h3, ← ha]
      by_cases h4 : S < 0
      · rw [decide_eq_true h4, if_pos rfl]; have := s1.2 h4; omega
      · rw [decide_eq_false h4, if_neg (by simp)]
        have : ¬ vs S e T < 0 := fun h5 => h4 (s1.1 h5)
        omega
    refine ⟨fun _ => Int.le_of_eq hv, fun _ => Int.le_of_eq hv.symm, fun h5 => by have := f2.1 h5; omega, fun h5 => by have := f2.1 h5; omega, fun _ => ⟨rfl, rfl⟩, fun h5 => absurd hv (h5 (f1.2 h1))⟩
  · rw [rnd_sgz, rnd_sgz, rnd_sgz, h1.val, h1.val, h1.val]
    have hl := h1.lt
    have hab := h1.above
    have hbe := h1.below
    have r0 : fraise (decide (S < 0)) 0 b = b := rfl
    have r1 : fraise (decide (S < 0)) 1 b = decide (S < 0) := rfl
    have r2 : fraise (decide (S < 0)) 2 b = !decide (S < 0) := rfl
    rw [r0, r1, r2]
    by_cases h4 : S < 0
    · rw [decide_eq_true h4]
      have hn := s1.2 h4
      simp only [Bool.not_true, Bool.false_eq_true, if_true, if_false, Nat.add_zero]
      obtain ⟨f1, f2⟩ := fin_sgz2 true (f := l) (by omega)
      obtain ⟨f3, f4⟩ := fin_sgz2 true (f := l + 1) (by omega)
      have v1 := fs_sgz true (f := l) T (by omega)
      have v2 := fs_sgz true (f := l + 1) T (by omega)
      have k1 := rank_sgz true (f := l) (by omega)
      have k2 := rank_sgz true (f := l + 1) (by omega)
      simp only [if_true] at v1 v2 k1 k2
      refine ⟨fun h5 => ?_, fun h5 => ?_, fun h5 => ?_, fun h5 => ?_, fun h5 => ?_, fun h5 h6 => ⟨?_, ?_⟩⟩
      · rw [v2]; have := f3.1 h5; omega
      · rw [v1]; omega
      · have := f4.1 h5; rw [this]; rfl
      · have := f2.1 h5; omega
      · exfalso
        rcases h5 with ⟨h5, h6⟩ | ⟨h5, h6⟩
        · rw [v2] at h6; have := f3.1 h5; omega
        · rw [v1] at h6; omega
      · rw [k1, k2]; omega
      · cases b
        · right; simp
        · left; simp
    · rw [decide_eq_false h4]
      have hn : ¬ vs S e T < 0 := fun h5 => h4 (s1.1 h5)
      simp only [Bool.not_false, Bool.false_eq_true, if_true, if_false, Nat.add_zero]
      obtain ⟨f1, f2⟩ := fin_sgz2 false (f := l) (by omega)
      obtain ⟨f3, f4⟩ := fin_sgz2 false (f := l + 1) (by omega)
      have v1 := fs_sgz false (f := l) T (by omega)
      have v2 := fs_sgz false (f := l + 1) T (by omega)
      have k1 := rank_sgz false (f := l) (by omega)
      have k2 := rank_sgz false (f := l + 1) (by omega)
      simp only [Bool.false_eq_true, if_false] at v1 v2 k1 k2
      refine ⟨fun h5 => ?_, fun h5 => ?_, fun h5 => ?_, fun h5 => ?_, fun h5 => ?_, fun h5 h6 => ⟨?_, ?_⟩⟩
      · rw [v1]; omega
      · rw [v2]; have := f3.1 h5; omega
      · have := f2.1 h5; omega
      · have := f4.1 h5; rw [this]; rfl
      · exfalso
        rcases h5 with ⟨h5, h6⟩ | ⟨h5, h6⟩
        · rw [v1] at h6; omega
        · rw [v2] at h6; have := f3.1 h5; omega
      · rw [k1, k2]; omega
      · cases b
        · left; simp
        · right; simp

theorem fz_mag (f : Nat) : fz (fmag f) = fz f := by
  have : fmag (fmag f) = fmag f := Nat.mod_eq_of_lt (fmag_lt f)
  unfold fz sig fsh ffld
  rw [this]

end Go.Proofs.YtekocoklfnojmaaGreatDoor
