/- The order of the floats and their neighbours, as plain facts; float.Cmp. -/
import Derived.Test.YtjohpdobnedilaaDoorHc
import Derived.Test.YtjohpdobnedilaaDoorGa
import Derived.Test.YtjohpdobnedilaaDoorGg
import Derived.Test.YtjohpdobnedilaaDoorGs
import Derived.Test.YtjohpdobnedilaaDoorGv
import Derived.Test.YtjohpdobnedilaaDoorHe
namespace Go.Proofs.YtjohpdobnedilaaDoor
open Go.RowKit

theorem nanB_not {f : Nat} (h : nanB f = false) : fmag f ≤ 9218868437227405312 := by
  have := of_decide_eq_false h
  omega
theorem nanB_nan : nanB 9221120237041090560 = true := by decide

/-- the next float's place is the next one -/
theorem up_rank {f : Nat} (hf : f < 18446744073709551616) (hn : nanB f = false) (hi : f ≠ 9218868437227405312) : nanB (fupF f) = false ∧ frank (fupF f) = frank f + 1 := by
  have hp := f_parts hf
  have hm := nanB_not hn
  unfold fupF
  rw [if_neg (by rw [hn]; simp), if_neg hi]
  by_cases hz : zeroB f = true
  · rw [if_pos hz]
    have h0 : fmag f = 0 := of_decide_eq_true hz
    refine ⟨by decide, ?_⟩
    unfold frank
    rw [h0]
    simp [fneg, fmag]
  · rw [if_neg hz]
    have h0 : fmag f ≠ 0 := of_decide_eq_false ((Bool.not_eq_true _).mp hz)
    by_cases hs : fneg f = true
    · rw [if_pos hs]
      rw [hs] at hp
      unfold sgz at hp
      rw [if_pos rfl] at hp
      have e1 : fneg (f - 1) = true := by unfold fneg; simp; omega
      have e2 : fmag (f - 1) = fmag f - 1 := by unfold fmag at *; omega
      refine ⟨decide_eq_false (by omega), ?_⟩
      unfold frank
      rw [e1, hs, e2, if_pos rfl, if_pos rfl]
      omega
    · rw [if_neg hs]
      have hs : fneg f = false := by simpa using hs
      rw [hs] at hp
      unfold sgz at hp
      rw [if_neg (by simp)] at hp
      have e1 : fneg (f + 1) = false := by unfold fneg; simp; omega
      have e2 : fmag (f + 1) = fmag f + 1 := by unfold fmag at *; omega
      refine ⟨decide_eq_false (by omega), ?_⟩
      unfold frank
      rw [e1, hs, e2, if_neg (by simp), if_neg (by simp)]
      omega

theorem neg_rank {f : Nat} (hf : f < 18446744073709551616) (hn : nanB f = false) : nanB (fnegF f) = false ∧ frank (fnegF f) = - frank f ∧ (fnegF f = 9218868437227405312 → frank f = -9218868437227405312) := by
  have hp := f_parts hf
  have hm := nanB_not hn
  have hl := fmag_lt f
  unfold fnegF
  rw [if_neg (by rw [hn]; simp)]
  cases hs : fneg f
  · rw [hs] at hp
    have e1 : fneg (sgz (!false) + fmag f) = true := by unfold fneg sgz; simp
    have e2 : fmag (sgz (!false) + fmag f) = fmag f := by unfold fmag sgz; simp <;> omega
    refine ⟨decide_eq_false (by rw [e2]; omega), ?_, ?_⟩
    · unfold frank; rw [e1, e2, hs]; simp
    · unfold sgz; simp <;> omega
  · rw [hs] at hp
    have e1 : fneg (sgz (!true) + fmag f) = false := by unfold fneg sgz; simp <;> omega
    have e2 : fmag (sgz (!true) + fmag f) = fmag f := by unfold fmag sgz; simp <;> omega
    refine ⟨decide_eq_false (by rw [e2]; omega), ?_, ?_⟩
    · unfold frank; rw [e1, e2, hs]; simp
    · intro h
      unfold frank
      rw [hs, if_pos rfl]
      unfold sgz at h
      simp at h
      omega

theorem down_rank {f : Nat} (hf : f < 18446744073709551616) (hn : nanB f = false) (hi : frank f ≠ -9218868437227405312) : nanB (fdownF f) = false ∧ frank (fdownF f) = frank f - 1 := by
  obtain ⟨a1, a2, a3⟩ := neg_rank hf hn
  obtain ⟨b1, b2⟩ := up_rank (fnegF_lt (f := f)) a1 (fun h => hi (a3 h))
  obtain ⟨c1, c2, -⟩ := neg_rank (fupF_lt (fnegF_lt (f := f))) b1
  refine ⟨c1, ?_⟩
  unfold fdownF
  rw [c2, b2, a2]
  omega

theorem frank_bounds (f : Nat) : -9223372036854775808 < frank f ∧ frank f < 9223372036854775808 := by
  have := fmag_lt f
  unfold frank
  split <;> omega

/-- the results of Cmp -/
def FcmpOut (a b : Nat) (s : Int) (ok : Bool) : Prop := if nanB a || nanB b then s = 0 ∧ ok = false else s = sgn3 (frank a) (frank b) ∧ ok = true
theorem fcmp_nan {a b : Nat} (h : nanB a = true ∨ nanB b = true) : FcmpOut a b 0 false := by
  unfold FcmpOut
  rw [if_pos (by rcases h with h | h <;> simp [h])]
  exact ⟨rfl, rfl⟩
theorem fcmp_num {a b : Nat} {s : Int} (ha : nanB a = false) (hb : nanB b = false) (hs : sgn3 (frank a) (frank b) = s) : FcmpOut a b s true := by
  unfold FcmpOut
  rw [if_neg (by simp [ha, hb])]
  exact ⟨hs.symm, rfl⟩

set_option maxRecDepth 100000 in
set_option maxHeartbeats 400000 in
theorem compare64_any (x y : Int) (w : World) : Calls Tryd.prog 60 #[.int .i64 x, .int .i64 y] w fun e w' => e = .returned (.int .i64 (sgn3 x y)) ∧ w = w' := by
  have hx : (x != x) = false := by simp
  have hy : (y != y) = false := by simp
  by_cases h1 : x < y
  · have e : sgn3 x y = -1 := by simp [sgn3, h1]
    have E := Lib.hid e; clear e
    go_enter Tryd.func60, Tryd.ntmps60
    go_wp2_with go_in
    go_ret
    exact ⟨by rw [E.out]; rfl, rfl⟩
  · by_cases h2 : y < x
    · have e : sgn3 x y = 1 := by simp [sgn3, h1, h2]
      have E := Lib.hid e; clear e
      go_enter Tryd.func60, Tryd.ntmps60
      go_wp2_with go_in
      go_ret
      exact ⟨by rw [E.out]; rfl, rfl⟩
    · have e : sgn3 x y = 0 := by simp [sgn3, h1, h2]
      have E := Lib.hid e; clear e
      go_enter Tryd.func60, Tryd.ntmps60
      go_wp2_with go_in
      go_ret
      exact ⟨by rw [E.out]; rfl, rfl⟩

set_option maxRecDepth 100000 in
set_option maxHeartbeats 1000000 in
theorem fcmp_any (a b : Nat) (ha : a < 18446744073709551616) (hb : b < 18446744073709551616) (s : Int) (ok : Bool) (h : FcmpOut a b s ok) (w : World) :
    Calls Tryd.prog 38 #[.int .u64 (a : Int), .int .u64 (b : Int)] w fun e w' => e = .returned (.tuple #[.int .i64 s, .bool ok]) ∧ Ext w w' := by
  unfold FcmpOut at h
  obtain ⟨na, hna⟩ : ∃ na, nanB a = na := ⟨_, rfl⟩
  obtain ⟨nb, hnb⟩ : ∃ nb, nanB b = nb := ⟨_, rfl⟩
  rw [hna, hnb] at h
  have HA := Lib.hid hna; clear hna
  have HB := Lib.hid hnb; clear hnb
  cases na with
  | true =>
    simp only [Bool.true_or, if_true] at h
    obtain ⟨rfl, rfl⟩ := h
    go_enter Tryd.func38, Tryd.ntmps38
    go_wp2_with (go_at_call 53; refine (isNaN_any a ha _).mono ?_; rw [HA.out]; rintro e w' ⟨rfl, rfl⟩)
    go_ret2
    exact ⟨rfl, Below.refl _ _⟩
  | false =>
    cases nb with
    | true =>
      simp only [Bool.false_or, if_true] at h
      obtain ⟨rfl, rfl⟩ := h
      go_enter Tryd.func38, Tryd.ntmps38
      go_wp2_with fail
      refine (isNaN_any a ha _).mono ?_
      rw [HA.out]
      rintro e w' ⟨rfl, rfl⟩
      go_wp2_with fail
      refine (isNaN_any b hb _).mono ?_
      rw [HB.out]
      rintro e w' ⟨rfl, rfl⟩
      go_wp2
      go_ret2
      exact ⟨rfl, Below.refl _ _⟩
    | false =>
      simp only [Bool.or_self, Bool.false_eq_true, if_false] at h
      obtain ⟨hs, rfl⟩ := h
      have ra := rank_any a ha
      have rb := rank_any b hb
      generalize frank a = x at *
      generalize frank b = y at *
      have RA := Lib.hid ra; clear ra
      have RB := Lib.hid rb; clear rb
      subst hs
      have HC := Lib.hid (compare64_any x y)
      generalize sgn3 x y = s at *
      go_enter Tryd.func38, Tryd.ntmps38
      go_wp2_with fail
      refine (isNaN_any a ha _).mono ?_
      rw [HA.out]
      rintro e w' ⟨rfl, rfl⟩
      go_wp2_with fail
      refine (isNaN_any b hb _).mono ?_
      rw [HB.out]
      rintro e w' ⟨rfl, rfl⟩
      go_wp2_with fail
      refine (RA.out _).mono ?_
      rintro e w' ⟨rfl, rfl⟩
      go_wp2_with fail
      refine (RB.out _).mono ?_
      rintro e w' ⟨rfl, rfl⟩
      go_wp2_with fail
      refine (HC.out _).mono ?_
      rintro e w' ⟨rfl, rfl⟩
      go_wp2
      go_ret2
      exact ⟨rfl, Below.refl _ _⟩
end Go.Proofs.YtjohpdobnedilaaDoor

/- Results of rounding are numbers, as plain facts. -/
namespace Go.Proofs.YtjohpdobnedilaaDoor

theorem kept_lt {N k : Nat} (hk : Nat.log2 N + 1 ≤ 53 + k) : N / 2 ^ k < 9007199254740992 := by
  rw [Nat.div_lt_iff_lt_mul (Nat.pow_pos (by omega)), show (9007199254740992 : Nat) = 2 ^ 53 by decide, ← Nat.pow_add]
  refine Nat.lt_of_lt_of_le (Nat.lt_log2_self (n := N)) (Nat.pow_le_pow_right (by omega) hk)

theorem fla_le (neg : Bool) (N : Nat) (e : Int) (t : Bool) (mode : Int) : fla neg N e t mode ≤ 9218868437227405312 := by
  unfold fla
  split
  · split <;> omega
  · rename_i h
    have hP : fplace N e = max (e + (Nat.log2 N : Int) - 52) (-1074) := rfl
    split
    · rename_i h1
      obtain ⟨k, hk⟩ : ∃ k : Nat, (e - fplace N e).toNat = k := ⟨_, rfl⟩
      obtain ⟨p, hp⟩ : ∃ p : Nat, (fplace N e + 1074).toNat = p := ⟨_, rfl⟩
      rw [hk, hp]
      have hlt : N * 2 ^ k < 9007199254740992 := by
        rw [show (9007199254740992 : Nat) = 2 ^ 53 by decide]
        have h2 : N * 2 ^ k < 2 ^ (Nat.log2 N + 1) * 2 ^ k := Nat.mul_lt_mul_of_pos_right (Nat.lt_log2_self (n := N)) (Nat.pow_pos (by omega))
        rw [← Nat.pow_add] at h2
        exact Nat.lt_of_lt_of_le h2 (Nat.pow_le_pow_right (by omega) (by omega))
      have hp2 : p ≤ 2045 := by omega
      generalize N * 2 ^ k = x at *
      omega
    · rename_i h1
      obtain ⟨k, hk⟩ : ∃ k : Nat, (fplace N e - e).toNat = k := ⟨_, rfl⟩
      obtain ⟨p, hp⟩ : ∃ p : Nat, (fplace N e + 1074).toNat = p := ⟨_, rfl⟩
      rw [hk, hp]
      have hlt := kept_lt (N := N) (k := k) (by omega)
      have hp2 : p ≤ 2045 := by omega
      generalize N / 2 ^ k = x at *
      split <;> omega

theorem nan_mag {f : Nat} (s : Bool) (h : f ≤ 9218868437227405312) : nanB (sgz s + f) = false ∧ sgz s + f < 18446744073709551616 := by
  have h1 := sgz_le s
  have h2 : fmag (sgz s + f) = f := by unfold fmag sgz; split <;> omega
  exact ⟨decide_eq_false (by omega), by omega⟩
theorem cancel_num (mode : Int) : nanB (cancel mode) = false ∧ cancel mode < 18446744073709551616 ∧ fmag (cancel mode) = 0 := by
  unfold cancel
  split <;> decide
theorem rsum_num (S m mode : Int) : nanB (rsum S m mode) = false ∧ rsum S m mode < 18446744073709551616 := by
  unfold rsum
  split
  · exact ⟨(cancel_num mode).1, (cancel_num mode).2.1⟩
  · unfold rnd flr
    have h := fla_le (decide (S < 0)) S.natAbs m false mode
    exact nan_mag (decide (S < 0)) h
theorem fin_not {a : Nat} (h : finB a = true) : nanB a = false ∧ infB a = false := by
  have h1 : fmag a < 9218868437227405312 := of_decide_eq_true h
  exact ⟨decide_eq_false (by omega), decide_eq_false (by omega)⟩
theorem fin_one : finB 4607182418800017408 = true := by decide
theorem fin_sgz (s : Bool) : finB (sgz s) = true ∧ sgz s < 18446744073709551616 ∧ fmag (sgz s) = 0 := by cases s <;> decide
theorem frank_zero {f : Nat} (h : fmag f = 0) : frank f = 0 := by unfold frank; rw [h]; split <;> rfl
end Go.Proofs.YtjohpdobnedilaaDoor

/- What rounding does to values: the greatest float that is not greater, or the next one. No program stands here. -/
namespace Go.Proofs.YtjohpdobnedilaaDoor

theorem fplace_ge (N : Nat) (e : Int) : e + (Nat.log2 N : Int) - 52 ≤ fplace N e ∧ -1074 ≤ fplace N e ∧ (fplace N e = -1074 ∨ fplace N e = e + (Nat.log2 N : Int) - 52) := by unfold fplace; omega

/-- bits from place and significand -/
theorem fz_bits {q K : Nat} (hK : K ≤ 9007199254740992) (h : q = 0 ∨ 4503599627370496 ≤ K) (hq : q ≤ 2045) : fz (q * 4503599627370496 + K) = K * 2 ^ q := by
  have hm : fmag (q * 4503599627370496 + K) = q * 4503599627370496 + K := Nat.mod_eq_of_lt (by omega)
  unfold fz sig fsh ffld
  rw [hm]
  by_cases h1 : K < 4503599627370496
  · obtain rfl : q = 0 := by omega
    rw [if_pos (by omega), show (0 * 4503599627370496 + K) / 4503599627370496 - 1 = 0 by omega]
    simp
  · by_cases h2 : K = 9007199254740992
    · subst h2
      rw [if_neg (by omega), show (q * 4503599627370496 + 9007199254740992) % 4503599627370496 + 4503599627370496 = 4503599627370496 by omega, show (q * 4503599627370496 + 9007199254740992) / 4503599627370496 - 1 = q + 1 by omega, Nat.pow_succ]
      omega
    · rw [if_neg (by omega), show (q * 4503599627370496 + K) % 4503599627370496 + 4503599627370496 = K by omega, show (q * 4503599627370496 + K) / 4503599627370496 - 1 = q by omega]

/-- the next float's value: one unit more in the last place -/
theorem fz_succ {m : Nat} (h : m < 9218868437227405312) : fz (m + 1) = fz m + 2 ^ (m / 4503599627370496 - 1) := by
  obtain ⟨q, K, hq, hK, hn, hm⟩ : ∃ q K, q ≤ 2045 ∧ K < 9007199254740992 ∧ (q = 0 ∨ 4503599627370496 ≤ K) ∧ m = q * 4503599627370496 + K := by
    by_cases h1 : m < 4503599627370496
    · exact ⟨0, m, by omega, by omega, by omega, by omega⟩
    · exact ⟨m / 4503599627370496 - 1, m % 4503599627370496 + 4503599627370496, by omega, by omega, by omega, by omega⟩
  have e1 : m / 4503599627370496 - 1 = q := by omega
  rw [e1, hm, Nat.add_assoc, fz_bits (by omega) (by omega) hq, fz_bits (by omega) hn hq, Nat.add_mul, Nat.one_mul]

theorem fz_lt_succ {m : Nat} (h : m < 9218868437227405312) : fz m < fz (m + 1) := by
  rw [fz_succ h]
  exact Nat.lt_add_of_pos_right (Nat.pow_pos (by omega))
theorem fz_mono {m n : Nat} (h : m ≤ n) (hn : n ≤ 9218868437227405312) : fz m ≤ fz n := by
  induction n with
  | zero => rw [show m = 0 by omega]; exact Nat.le_refl _
  | succ n ih =>
    rcases Nat.lt_or_ge n m with h1 | h1
    · rw [show m = n + 1 by omega]; exact Nat.le_refl _
    · exact Nat.le_trans (ih h1 (by omega)) (Nat.le_of_lt (fz_lt_succ (by omega)))
theorem fz_lt {m n : Nat} (h : m < n) (hn : n ≤ 9218868437227405312) : fz m < fz n := Nat.lt_of_lt_of_le (fz_lt_succ (by omega)) (fz_mono (show m + 1 ≤ n from h) hn)
theorem fz_zero0 : fz 0 = 0 := by decide

/-- the value of N 2^e in units of 2^-T -/
def vu (N : Nat) (e : Int) (T : Nat) : Nat := N * 2 ^ (e + T).toNat
/-- .. of a float -/
def fu (m T : Nat) : Nat := fz m * 2 ^ (T - 1074)

theorem fu_lt {m n T : Nat} (h : m < n) (hn : n ≤ 9218868437227405312) : fu m T < fu n T := Nat.mul_lt_mul_of_pos_right (fz_lt h hn) (Nat.pow_pos (by omega))
theorem fu_le {m n T : Nat} (h : m ≤ n) (hn : n ≤ 9218868437227405312) : fu m T ≤ fu n T := Nat.mul_le_mul_right _ (fz_mono h hn)
theorem fu_lt_iff {m n T : Nat} (hm : m ≤ 9218868437227405312) (hn : n ≤ 9218868437227405312) : fu m T < fu n T ↔ m < n := by
  constructor
  · intro h
    rcases Nat.lt_or_ge m n with h1 | h1
    · exact h1
    · exact absurd (fu_le (T := T) h1 hm) (by omega)
  · intro h; exact fu_lt h hn
theorem fu_zero (T : Nat) : fu 0 T = 0 := by unfold fu; rw [fz_zero0, Nat.zero_mul]

/-- is the magnitude raised: b says so to nearest -/
def fraise (neg : Bool) (mode : Int) (b : Bool) : Bool := if mode = 1 then neg else if mode = 2 then !neg else if mode = 3 then false else b

/-- what rounding a magnitude does: lo is the greatest float that is not greater -/
structure Rd (N : Nat) (e : Int) (T lo : Nat) (b : Bool) : Prop where
  lt : lo < 9218868437227405312
  val : ∀ neg mode, fla neg N e false mode = lo + (if fraise neg mode b then 1 else 0)
  above : fu lo T < vu N e T
  below : lo + 1 = 9218868437227405312 ∧ fu 9218868437227405312 T ≤ vu N e T ∨ vu N e T < fu (lo + 1) T
  near : b = true ∧ fu lo T + fu (lo + 1) T < 2 * vu N e T ∨ b = false ∧ 2 * vu N e T < fu lo T + fu (lo + 1) T ∨ 2 * vu N e T = fu lo T + fu (lo + 1) T ∧ b = decide (lo % 2 = 1)
def Rx (N : Nat) (e : Int) (T lo : Nat) : Prop := lo < 9218868437227405312 ∧ (∀ neg mode, fla neg N e false mode = lo) ∧ fu lo T = vu N e T

theorem pow_cast_eq {a b : Nat} {x : Int} (h : (a : Int) = x) (hb : x.toNat = b) : a = b := by omega

def low46 : Nat := 2046
theorem fz_inf : fz 9218868437227405312 = 2 ^ 52 * 2 ^ low46 := by
  have h1 : sig 9218868437227405312 = 2 ^ 52 := by decide
  have h2 : fsh 9218868437227405312 = low46 := by decide
  unfold fz
  rw [h1, h2]

theorem fla_spec {N : Nat} (h0 : N ≠ 0) (e : Int) {T : Nat} (hT : 1074 ≤ T) (he : -(T : Int) ≤ e) : (∃ lo, Rx N e T lo) ∨ ∃ lo b, Rd N e T lo b := by
  obtain ⟨p1, p2, p3⟩ := fplace_ge N e
  have l1 := Nat.log2_self_le h0
  have l2 := @Nat.lt_log2_self N
  by_cases hg : e + (Nat.log2 N : Int) > 1023
  · -- too great
    right
    have hx : fu 9218868437227405312 T ≤ vu N e T := by
      unfold fu vu
      rw [fz_inf, ← Nat.pow_add, ← Nat.pow_add]
      have h2 : 2 ^ (Nat.log2 N) * 2 ^ (e + T).toNat ≤ N * 2 ^ (e + T).toNat := Nat.mul_le_mul_right _ l1
      rw [← Nat.pow_add] at h2
      exact Nat.le_trans (Nat.pow_le_pow_right (by omega) (by unfold low46; omega)) h2
    have hy : fu 9218868437227405311 T < fu 9218868437227405312 T := fu_lt (by omega) (Nat.le_refl _)
    refine ⟨9218868437227405311, true, by omega, ?_, by omega, Or.inl ⟨rfl, hx⟩, Or.inl ⟨rfl, ?_⟩⟩
    · intro neg mode
      unfold fla fover fraise
      rw [if_pos hg]
      by_cases m1 : mode = 1
      · rw [if_pos m1]; cases neg <;> rfl
      · rw [if_neg m1]
        by_cases m2 : mode = 2
        · rw [if_pos m2]; cases neg <;> rfl
        · rw [if_neg m2]
          by_cases m3 : mode = 3
          · rw [if_pos m3]; rfl
          · rw [if_neg m3]; rfl
    · show fu 9218868437227405311 T + fu (9218868437227405311 + 1) T < 2 * vu N e T
      rw [show 9218868437227405311 + 1 = 9218868437227405312 from rfl]
      omega
  · obtain ⟨q, hq⟩ : ∃ q : Nat, (q : Int) = fplace N e + 1074 := ⟨(fplace N e + 1074).toNat, by omega⟩
    have hq1 : q ≤ 2045 := by omega
    have hqn : (fplace N e + 1074).toNat = q := by omega
    by_cases hp : fplace N e ≤ e
    · -- exact
      left
      obtain ⟨i, hi⟩ : ∃ i : Nat, (i : Int) = e - fplace N e := ⟨(e - fplace N e).toNat, by omega⟩
      have hin : (e - fplace N e).toNat = i := by omega
      have hKl : N * 2 ^ i < 9007199254740992 := by
        have h2 : N * 2 ^ i < 2 ^ (Nat.log2 N + 1) * 2 ^ i := Nat.mul_lt_mul_of_pos_right l2 (Nat.pow_pos (by omega))
        rw [← Nat.pow_add] at h2
        exact Nat.lt_of_lt_of_le h2 (by rw [show 9007199254740992 = 2 ^ 53 from rfl]; exact Nat.pow_le_pow_right (by omega) (by omega))
      have hKn : q = 0 ∨ 4503599627370496 ≤ N * 2 ^ i := by
        rcases p3 with p3 | p3
        · left; omega
        · right
          have h2 : 2 ^ (Nat.log2 N) * 2 ^ i ≤ N * 2 ^ i := Nat.mul_le_mul_right _ l1
          rw [← Nat.pow_add, show Nat.log2 N + i = 52 by omega] at h2
          exact h2
      refine ⟨q * 4503599627370496 + N * 2 ^ i, by omega, ?_, ?_⟩
      · intro neg mode
        unfold fla
        rw [if_neg hg, if_pos hp, hqn, hin]
      · unfold fu vu
        rw [fz_bits (by omega) hKn hq1, Nat.mul_assoc, Nat.mul_assoc, ← Nat.pow_add, ← Nat.pow_add, show i + (q + (T - 1074)) = (e + T).toNat by omega]
    · obtain ⟨D, hD⟩ : ∃ D : Nat, (D : Int) = fplace N e - e := ⟨(fplace N e - e).toNat, by omega⟩
      have hDn : (fplace N e - e).toNat = D := by omega
      have hD0 : D ≠ 0 := by omega
      have hpD : 0 < 2 ^ D := Nat.pow_pos (by omega)
      have hdm := Nat.div_add_mod N (2 ^ D)
      have hml := Nat.mod_lt N hpD
      have hKl : N / 2 ^ D < 9007199254740992 := by
        rw [Nat.div_lt_iff_lt_mul hpD, show 9007199254740992 = 2 ^ 53 from rfl, ← Nat.pow_add]
        exact Nat.lt_of_lt_of_le l2 (Nat.pow_le_pow_right (by omega) (by omega))
      have hKn : q = 0 ∨ 4503599627370496 ≤ N / 2 ^ D := by
        rcases p3 with p3 | p3
        · left; omega
        · right
          rw [Nat.le_div_iff_mul_le hpD, show 4503599627370496 = 2 ^ 52 from rfl, ← Nat.pow_add, show 52 + D = Nat.log2 N by omega]
          exact l1
      obtain ⟨c, hc⟩ : ∃ c : Nat, c = (e + T).toNat := ⟨_, rfl⟩
      have hvu : vu N e T = (N / 2 ^ D * 2 ^ D + N % 2 ^ D) * 2 ^ c := by unfold vu; rw [← hc]; congr 1; rw [Nat.mul_comm]; omega
      have hlo : fu (q * 4503599627370496 + N / 2 ^ D) T = N / 2 ^ D * 2 ^ D * 2 ^ c := by
        unfold fu
        rw [fz_bits (by omega) hKn hq1, Nat.mul_assoc, Nat.mul_assoc, ← Nat.pow_add, ← Nat.pow_add, show q + (T - 1074) = D + c by omega]
      have hhi : fu (q * 4503599627370496 + N / 2 ^ D + 1) T = (N / 2 ^ D + 1) * 2 ^ D * 2 ^ c := by
        unfold fu
        rw [Nat.add_assoc, fz_bits (by omega) (by omega) hq1, Nat.mul_assoc, Nat.mul_assoc, ← Nat.pow_add, ← Nat.pow_add, show q + (T - 1074) = D + c by omega]
      have hv : ∀ neg mode, fla neg N e false mode = q * 4503599627370496 + N / 2 ^ D + (if fup neg mode (N / 2 ^ D) (N % 2 ^ D) (2 ^ D) false then 1 else 0) := by
        intro neg mode
        unfold fla
        rw [if_neg hg, if_neg hp, hqn, hDn]
      have hKo : decide (N / 2 ^ D % 2 = 1) = decide ((q * 4503599627370496 + N / 2 ^ D) % 2 = 1) := decide_eq_decide.2 (by omega)
      generalize N / 2 ^ D = K at *
      generalize N % 2 ^ D = r at *
      have hpc : 0 < 2 ^ c := Nat.pow_pos (by omega)
      have hlt : q * 4503599627370496 + K < 9218868437227405312 := by omega
      by_cases hr : r = 0
      · left
        subst hr
        refine ⟨q * 4503599627370496 + K, hlt, ?_, ?_⟩
        · intro neg mode
          rw [hv]
          have e3 : fup neg mode K 0 (2 ^ D) false = false := by
            unfold fup
            simp <;> omega
          rw [e3]
          simp only [Bool.false_eq_true, if_false, Nat.add_zero]
        · rw [hlo, hvu]; rfl
      · right
        generalize 2 ^ D = P at *
        generalize 2 ^ c = C at *
        have q1 : (K * P + r) * C = K * P * C + r * C := Nat.add_mul _ _ _
        have q2 : (K + 1) * P * C = K * P * C + P * C := by rw [Nat.add_mul K 1 P, Nat.one_mul, Nat.add_mul]
        have q3 : 0 < r * C := Nat.mul_pos (by omega) hpc
        have q4 : r * C < P * C := Nat.mul_lt_mul_of_pos_right hml hpc
        have q5 : 2 * (r * C) = 2 * r * C := by rw [Nat.mul_assoc]
        refine ⟨q * 4503599627370496 + K, decide (P < 2 * r) || decide (P = 2 * r) && decide (K % 2 = 1), hlt, ?_, ?_, ?_, ?_⟩
        · intro neg mode
          rw [hv]
          unfold fup fraise
          simp only [decide_eq_true hr, Bool.or_false, Bool.and_true, Bool.false_or]
        · rw [hlo, hvu]; omega
        · right; rw [hhi, hvu]; omega
        · rw [hlo, hhi, hvu, q1, q2]
          rcases Nat.lt_trichotomy P (2 * r) with h3 | h3 | h3
          · left
            have := Nat.mul_lt_mul_of_pos_right h3 hpc
            exact ⟨by rw [decide_eq_true h3]; rfl, by omega⟩
          · right; right
            have : P * C = 2 * r * C := by rw [h3]
            exact ⟨by omega, by rw [decide_eq_false (show ¬ P < 2 * r by omega), decide_eq_true h3, Bool.false_or, Bool.true_and]; exact hKo⟩
          · right; left
            have := Nat.mul_lt_mul_of_pos_right h3 hpc
            exact ⟨by rw [decide_eq_false (show ¬ P < 2 * r by omega), decide_eq_false (show ¬ P = 2 * r by omega)]; rfl, by omega⟩
end Go.Proofs.YtjohpdobnedilaaDoor

/- Negated arguments give negated results, as plain facts. -/
namespace Go.Proofs.YtjohpdobnedilaaDoor

/-- the mode that rounds the negated numbers alike -/
def opp (mode : Int) : Int := if mode = 1 then 2 else if mode = 2 then 1 else mode

theorem fup_mirror (neg : Bool) (mode : Int) (kept r h : Nat) (t : Bool) : fup (!neg) (opp mode) kept r h t = fup neg mode kept r h t := by
  unfold fup opp
  by_cases h1 : mode = 1
  · subst h1; cases neg <;> simp
  · by_cases h2 : mode = 2
    · subst h2; cases neg <;> simp
    · simp only [if_neg h1, if_neg h2]
theorem fover_mirror (neg : Bool) (mode : Int) : fover (!neg) (opp mode) = fover neg mode := by
  unfold fover opp
  by_cases h1 : mode = 1
  · subst h1; cases neg <;> simp
  · by_cases h2 : mode = 2
    · subst h2; cases neg <;> simp
    · simp only [if_neg h1, if_neg h2]
theorem fla_mirror (neg : Bool) (N : Nat) (e : Int) (t : Bool) (mode : Int) : fla (!neg) N e t (opp mode) = fla neg N e t mode := by
  unfold fla
  simp only [fup_mirror, fover_mirror]

theorem fmag_sgz (s : Bool) {f : Nat} (h : f < 9223372036854775808) : fmag (sgz s + f) = f ∧ fneg (sgz s + f) = s := by
  unfold fmag fneg sgz
  cases s
  · exact ⟨by simp; omega, by simp; omega⟩
  · exact ⟨by simp; omega, by simp⟩
/-- negating a number that is no NaN -/
theorem fnegF_sgz (s : Bool) {f : Nat} (h : f ≤ 9218868437227405312) : fnegF (sgz s + f) = sgz (!s) + f := by
  obtain ⟨h1, h2⟩ := fmag_sgz s (show f < 9223372036854775808 by omega)
  unfold fnegF nanB
  rw [h1, h2, decide_eq_false (by omega)]
  rfl
theorem fnegF_sgz0 (s : Bool) : fnegF (sgz s) = sgz (!s) := by have := fnegF_sgz s (f := 0) (by omega); simpa using this
theorem fneg_parts {a : Nat} (ha : a < 18446744073709551616) (hn : nanB a = false) : ∃ s m, m ≤ 9218868437227405312 ∧ a = sgz s + m ∧ fnegF a = sgz (!s) + m ∧ fneg a = s ∧ fmag a = m := by
  have h1 := nanB_not hn
  have h2 := f_parts ha
  refine ⟨fneg a, fmag a, h1, h2, ?_, rfl, rfl⟩
  have := fnegF_sgz (fneg a) h1
  rwa [← h2] at this
theorem neg_facts {a : Nat} (ha : a < 18446744073709551616) (hn : nanB a = false) : nanB (fnegF a) = false ∧ infB (fnegF a) = infB a ∧ zeroB (fnegF a) = zeroB a ∧ fz (fnegF a) = fz a ∧ fneg (fnegF a) = !(fneg a) ∧ sig (fnegF a) = sig a ∧ fsh (fnegF a) = fsh a ∧ fmag (fnegF a) = fmag a := by
  obtain ⟨s, m, h1, h2, h3, h4, h5⟩ := fneg_parts ha hn
  obtain ⟨g1, g2⟩ := fmag_sgz (!s) (show m < 9223372036854775808 by omega)
  have e1 : fmag (fnegF a) = fmag a := by rw [h3, h5, g1]
  have e2 : fneg (fnegF a) = !(fneg a) := by rw [h3, h4, g2]
  have e3 : sig (fnegF a) = sig a := by unfold sig ffld; rw [e1]
  have e4 : fsh (fnegF a) = fsh a := by unfold fsh ffld; rw [e1]
  refine ⟨?_, ?_, ?_, ?_, e2, e3, e4, e1⟩
  · unfold nanB at hn ⊢; rw [e1, hn]
  · unfold infB; rw [e1]
  · unfold zeroB; rw [e1]
  · unfold fz; rw [e3, e4]
theorem neg_nan {a : Nat} (hn : nanB a = true) : fnegF a = 9221120237041090560 := by unfold fnegF; rw [if_pos hn]

theorem sgi_not (s : Bool) (A : Nat) : sgi (!s) A = - sgi s A := by unfold sgi; cases s <;> simp
theorem xor_not (a b : Bool) : ((!a) != b) = !(a != b) ∧ (a != !b) = !(a != b) := by cases a <;> cases b <;> exact ⟨rfl, rfl⟩

theorem rnd_mirror {S : Int} (h : S ≠ 0) (m mode : Int) : rnd (-S) m (opp mode) = fnegF (rnd S m mode) := by
  have e1 : decide (-S < 0) = !(decide (S < 0)) := by
    by_cases h1 : S < 0
    · rw [decide_eq_true h1, decide_eq_false (by omega)]; rfl
    · rw [decide_eq_false h1, decide_eq_true (by omega)]; rfl
  have h2 := fla_le (decide (S < 0)) S.natAbs m false mode
  unfold rnd
  rw [e1, Int.natAbs_neg]
  unfold flr
  rw [fla_mirror]
  have h3 := fnegF_sgz (decide (S < 0)) h2
  unfold sgz at h3
  exact h3.symm
theorem rsum_mirror {S : Int} (h : S ≠ 0) (m mode : Int) : rsum (-S) m (opp mode) = fnegF (rsum S m mode) := by
  unfold rsum
  rw [if_neg h, if_neg (by omega), rnd_mirror h]

/-- a product with one factor negated -/
theorem fmul_mirror {a b : Nat} (ha : a < 18446744073709551616) (mode : Int) : fmulF (fnegF a) b (opp mode) = fnegF (fmulF a b mode) := by
  unfold fmulF fmaF
  cases hn : nanB a
  · obtain ⟨n1, n2, n3, n4, n5, -, -, -⟩ := neg_facts ha hn
    rw [n1, n2, n3, n4, n5, (xor_not _ _).1]
    obtain ⟨s, hs⟩ : ∃ s, (fneg a != fneg b) = s := ⟨_, rfl⟩
    rw [hs]
    have z1 : ∀ s, nanB (sgz s) = false ∧ infB (sgz s) = false ∧ zeroB (sgz s) = true ∧ fz (sgz s) = 0 := by intro s; cases s <;> decide
    obtain ⟨y1, y2, y3, y4⟩ := z1 s
    obtain ⟨x1, x2, x3, x4⟩ := z1 (!s)
    rw [y1, y2, y3, y4, x1, x2, x3, x4]
    simp only [Bool.false_or, Bool.or_false, Bool.and_false, Bool.false_and, Bool.false_eq_true, if_false, Bool.and_true, ne_eq, not_true_eq_false, decide_false]
    cases hb : nanB b
    · cases hi : (infB a || infB b)
      · cases hz : (zeroB a || zeroB b)
        · simp only [Bool.false_and, Bool.false_eq_true, if_false, Bool.false_or]
          rw [Nat.zero_mul, sgi_not, sgi_zero, sgi_zero, Int.add_zero, Int.add_zero]
          rw [Bool.or_eq_false_iff] at hz
          refine rsum_mirror ?_ _ _
          have q1 : fz a ≠ 0 := fun h => by rw [fz_zero] at h; unfold zeroB at hz; rw [h] at hz; simp at hz
          have q2 : fz b ≠ 0 := fun h => by rw [fz_zero] at h; unfold zeroB at hz; rw [h] at hz; simp at hz
          have q3 := Nat.mul_ne_zero q1 q2
          unfold sgi; split <;> omega
        · simp only [Bool.false_and, Bool.false_eq_true, if_false, Bool.false_or, if_true]
          exact (fnegF_sgz0 s).symm
      · cases hz : (zeroB a || zeroB b)
        · simp only [Bool.and_false, Bool.false_eq_true, if_false, Bool.false_or, if_true]
          have := fnegF_sgz s (f := 9218868437227405312) (Nat.le_refl _)
          rw [Nat.add_comm, ← this, Nat.add_comm]
        · simp only [Bool.and_self, Bool.or_true, if_true]
          decide
    · simp only [Bool.true_or, if_true]
      decide
  · rw [neg_nan hn]
    have : nanB 9221120237041090560 = true := by decide
    rw [this]
    simp only [Bool.true_or, if_true]
    decide

theorem fdiv_mirror {a b : Nat} (hb : b < 18446744073709551616) (mode : Int) : fdivF a (fnegF b) (opp mode) = fnegF (fdivF a b mode) := by
  unfold fdivF
  cases hn : nanB b
  · obtain ⟨n1, n2, n3, -, n5, n6, n7, -⟩ := neg_facts hb hn
    rw [n1, n2, n3, n5, n6, n7, (xor_not _ _).2]
    obtain ⟨s, hs⟩ : ∃ s, (fneg a != fneg b) = s := ⟨_, rfl⟩
    rw [hs]
    cases hc : (nanB a || false || infB a && infB b || zeroB a && zeroB b)
    · simp only [Bool.false_eq_true, if_false]
      cases hd : (infB a || zeroB b)
      · simp only [Bool.false_eq_true, if_false]
        cases he : (zeroB a || infB b)
        · simp only [Bool.false_eq_true, if_false]
          rw [fla_mirror]
          exact (fnegF_sgz s (fla_le _ _ _ _ _)).symm
        · simp only [if_true]
          exact (fnegF_sgz0 s).symm
      · simp only [if_true]
        have := fnegF_sgz s (f := 9218868437227405312) (Nat.le_refl _)
        rw [Nat.add_comm, ← this, Nat.add_comm]
    · simp only [if_true]
      decide
  · rw [neg_nan hn]
    have : nanB 9221120237041090560 = true := by decide
    rw [this]
    simp only [Bool.or_true, Bool.true_or, if_true]
    decide

theorem cancel_kind (mode : Int) : fkind (cancel mode) = 0 ∧ fkind (fnegF (cancel mode)) = 0 := by unfold cancel; split <;> decide
theorem kind_neg {a : Nat} (ha : a < 18446744073709551616) (hn : nanB a = false) : fkind (fnegF a) = fkind a := by
  unfold fkind
  rw [(neg_facts ha hn).2.2.2.2.2.2.2]

/-- a sum with both negated: the same but for the zero that is the sum of opposite numbers -/
theorem fadd_mirror {a b : Nat} (ha : a < 18446744073709551616) (hb : b < 18446744073709551616) (mode : Int) :
    faddF (fnegF a) (fnegF b) (opp mode) = fnegF (faddF a b mode) ∨ fkind (faddF (fnegF a) (fnegF b) (opp mode)) = 0 ∧ fkind (fnegF (faddF a b mode)) = 0 := by
  unfold faddF
  rw [add_form, add_form]
  have hnn : nanB 9221120237041090560 = true := by decide
  cases hna : nanB a
  · cases hnb : nanB b
    · obtain ⟨n1, n2, n3, n4, n5, -, -, -⟩ := neg_facts ha hna
      obtain ⟨m1, m2, m3, m4, m5, -, -, -⟩ := neg_facts hb hnb
      obtain ⟨s, x, p1, p2, p3, p4, p5⟩ := fneg_parts ha hna
      obtain ⟨t, y, q1, q2, q3, q4, q5⟩ := fneg_parts hb hnb
      rw [n1, n2, n3, n4, n5, m1, m2, m3, m4, m5]
      simp only [Bool.or_false, Bool.false_eq_true, if_false]
      have hinf : ∀ s : Bool, 9218868437227405312 + sgz (!s) = fnegF (9218868437227405312 + sgz s) := fun s => by
        have := fnegF_sgz s (f := 9218868437227405312) (Nat.le_refl _)
        rw [Nat.add_comm, ← this, Nat.add_comm]
      cases hia : infB a
      · simp only [Bool.false_and, Bool.false_eq_true, if_false]
        cases hza : zeroB a
        · simp only [Bool.false_and, Bool.false_eq_true, if_false]
          cases hib : infB b
          · simp only [Bool.or_false, Bool.false_eq_true, if_false]
            rw [sgi_not, sgi_not, ← Int.neg_add]
            by_cases h0 : sgi (fneg a) (fz a * 2 ^ low74) + sgi (fneg b) (fz b * 2 ^ low74) = 0
            · right
              rw [h0]
              unfold rsum
              rw [if_pos rfl, if_pos (by omega)]
              exact ⟨(cancel_kind _).1, (cancel_kind _).2⟩
            · left; exact rsum_mirror h0 _ _
          · left; simp only [Bool.true_or, if_true]
        · simp only [Bool.true_and, Bool.or_true, if_true]
          cases hzb : zeroB b
          · left; simp only [Bool.false_and, Bool.false_eq_true, if_false]
          · have y0 : y = 0 := by have : fmag b = 0 := of_decide_eq_true hzb; omega
            rw [q3, q2, p4, y0]
            simp only [Bool.true_and, Nat.add_zero]
            have d1 : sgz false ≠ sgz true := by decide
            have d2 : sgz true ≠ sgz false := by decide
            cases s <;> cases t <;> simp [fnegF_sgz0, cancel_kind, d1, d2]
      · cases hib : infB b
        · left
          simp only [Bool.and_false, Bool.false_and, Bool.false_eq_true, if_false, if_true]
          exact hinf _
        · have x0 : x = 9218868437227405312 := by have : fmag a = 9218868437227405312 := of_decide_eq_true hia; omega
          have y0 : y = 9218868437227405312 := by have : fmag b = 9218868437227405312 := of_decide_eq_true hib; omega
          left
          simp only [Bool.true_and, if_true]
          rw [q3, q2, p4, y0]
          cases s <;> cases t <;> decide
    · left
      rw [neg_nan hnb, hnn]
      simp only [Bool.or_true, if_true]
      decide
  · left
    rw [neg_nan hna, hnn]
    simp only [Bool.true_or, if_true]
    decide
end Go.Proofs.YtjohpdobnedilaaDoor

/- Rounding keeps the order, and encloses, as plain facts. -/
namespace Go.Proofs.YtjohpdobnedilaaDoor

/-- what rounding a magnitude gives: the greatest float that is not greater, or the next one -/
theorem fla_near {N : Nat} (h0 : N ≠ 0) (e : Int) {T : Nat} (hT : 1074 ≤ T) (he : -(T : Int) ≤ e) (neg : Bool) (mode : Int) : ∃ lo b, (Rx N e T lo ∧ fla neg N e false mode = lo) ∨ (Rd N e T lo b ∧ fla neg N e false mode = lo + (if fraise neg mode b then 1 else 0)) := by
  rcases fla_spec h0 e hT he with ⟨lo, h⟩ | ⟨lo, b, h⟩
  · exact ⟨lo, false, Or.inl ⟨h, h.2.1 neg mode⟩⟩
  · exact ⟨lo, b, Or.inr ⟨h, h.val neg mode⟩⟩

theorem fla_mono {N N' : Nat} (h0 : N ≠ 0) (h0' : N' ≠ 0) (e e' : Int) {T : Nat} (hT : 1074 ≤ T) (he : -(T : Int) ≤ e) (he' : -(T : Int) ≤ e') (h : vu N e T ≤ vu N' e' T) (neg : Bool) (mode : Int) : fla neg N e false mode ≤ fla neg N' e' false mode := by
  obtain ⟨lo, b, h1⟩ := fla_near h0 e hT he neg mode
  obtain ⟨lo', b', h2⟩ := fla_near h0' e' hT he' neg mode
  have hle : lo ≤ lo' := by
    rcases Nat.lt_or_ge lo' lo with h3 | h3
    · exfalso
      have hlt : lo < 9218868437227405312 := by
        rcases h1 with ⟨h1, _⟩ | ⟨h1, _⟩
        · exact h1.1
        · exact h1.lt
      have g1 : fu lo T ≤ vu N e T := by
        rcases h1 with ⟨h1, _⟩ | ⟨h1, _⟩
        · exact Nat.le_of_eq h1.2.2
        · exact Nat.le_of_lt h1.above
      have g2 : vu N' e' T < fu (lo' + 1) T := by
        rcases h2 with ⟨h2, _⟩ | ⟨h2, _⟩
        · rw [← h2.2.2]; exact fu_lt (by omega) (by omega)
        · rcases h2.below with h4 | h4
          · omega
          · exact h4
      have g3 : fu (lo' + 1) T ≤ fu lo T := fu_le (by omega) (by omega)
      omega
    · exact h3
  rcases h1 with ⟨h1, e1⟩ | ⟨h1, e1⟩
  · rw [e1]
    rcases h2 with ⟨h2, e2⟩ | ⟨h2, e2⟩ <;> rw [e2] <;> omega
  · rcases Nat.lt_or_ge lo lo' with h3 | h3
    · rw [e1]
      have : lo + (if fraise neg mode b then 1 else 0) ≤ lo + 1 := by split <;> omega
      rcases h2 with ⟨h2, e2⟩ | ⟨h2, e2⟩ <;> rw [e2] <;> omega
    · obtain rfl : lo = lo' := by omega
      rcases h2 with ⟨h2, e2⟩ | ⟨h2, e2⟩
      · exfalso
        have := h1.above
        have := h2.2.2
        omega
      · rw [e1, e2]
        have hb : b = true → b' = true := by
          intro hb
          subst hb
          rcases h1.near with ⟨_, n1⟩ | ⟨n1, _⟩ | ⟨n1, n2⟩
          · rcases h2.near with ⟨n3, _⟩ | ⟨_, n3⟩ | ⟨n3, _⟩
            · exact n3
            · omega
            · omega
          · cases n1
          · rcases h2.near with ⟨n3, _⟩ | ⟨_, n3⟩ | ⟨n3, n4⟩
            · exact n3
            · omega
            · rw [n4, ← n2]
        unfold fraise
        cases b with
        | true => rw [hb rfl]; exact Nat.le_refl _
        | false => cases b' <;> repeat' split <;> first | omega | simp_all

/-- the value of a number with its sign -/
def vs (S : Int) (e : Int) (T : Nat) : Int := S * 2 ^ (e + T).toNat
/-- .. of a float -/
def fs (f T : Nat) : Int := if fneg f then -(fu (fmag f) T : Int) else (fu (fmag f) T : Int)

theorem vs_abs (S e : Int) (T : Nat) : (vs S e T).natAbs = vu S.natAbs e T := by
  unfold vs vu
  rw [Int.natAbs_mul, Int.natAbs_pow]
  rfl
theorem vs_sign (S e : Int) (T : Nat) : (vs S e T < 0 ↔ S < 0) ∧ (vs S e T = 0 ↔ S = 0) := by
  unfold vs
  have hp : (0 : Int) < 2 ^ (e + T).toNat := Int.pow_pos (by omega)
  generalize (2 : Int) ^ (e + T).toNat = p at *
  constructor
  · constructor
    · intro h
      rcases Int.lt_or_le S 0 with h1 | h1
      · exact h1
      · exact absurd (Int.mul_nonneg h1 (Int.le_of_lt hp)) (by omega)
    · intro h; exact Int.mul_neg_of_neg_of_pos h hp
  · constructor
    · intro h
      rcases Int.mul_eq_zero.1 h with h1 | h1
      · exact h1
      · omega
    · rintro rfl; exact Int.zero_mul _

theorem rnd_sgz (S e mode : Int) : rnd S e mode = sgz (decide (S < 0)) + fla (decide (S < 0)) S.natAbs e false mode := rfl
theorem rnd_facts (S e mode : Int) : nanB (rnd S e mode) = false ∧ rnd S e mode < 18446744073709551616 ∧ fneg (rnd S e mode) = decide (S < 0) ∧ fmag (rnd S e mode) = fla (decide (S < 0)) S.natAbs e false mode := by
  have h := fla_le (decide (S < 0)) S.natAbs e false mode
  obtain ⟨h1, h2⟩ := fmag_sgz (decide (S < 0)) (show fla (decide (S < 0)) S.natAbs e false mode < 9223372036854775808 by omega)
  exact ⟨(nan_mag _ h).1, (nan_mag _ h).2, h2, h1⟩

/-- a dyad's number rounded: zero is +0 -/
def rz (S e mode : Int) : Nat := if S = 0 then 0 else rnd S e mode
theorem rz_facts (S e mode : Int) : nanB (rz S e mode) = false ∧ rz S e mode < 18446744073709551616 := by
  unfold rz
  split
  · decide
  · exact ⟨(rnd_facts S e mode).1, (rnd_facts S e mode).2.1⟩
theorem rank_sign (S e mode : Int) : (S < 0 → frank (rz S e mode) = -(fla true S.natAbs e false mode : Int)) ∧ (0 < S → frank (rz S e mode) = (fla false S.natAbs e false mode : Int)) ∧ (S = 0 → frank (rz S e mode) = 0) := by
  refine ⟨fun h => ?_, fun h => ?_, fun h => ?_⟩
  · unfold rz; rw [if_neg (by omega)]
    obtain ⟨-, -, h3, h4⟩ := rnd_facts S e mode
    unfold frank
    rw [h3, h4, decide_eq_true h, if_pos rfl]
  · unfold rz; rw [if_neg (by omega)]
    obtain ⟨-, -, h3, h4⟩ := rnd_facts S e mode
    unfold frank
    rw [h3, h4, decide_eq_false (by omega), if_neg (by simp)]
  · unfold rz; rw [if_pos h]; decide

theorem rz_mono {S S' e e' : Int} {T : Nat} (hT : 1074 ≤ T) (he : -(T : Int) ≤ e) (he' : -(T : Int) ≤ e') (h : vs S e T ≤ vs S' e' T) (mode : Int) : frank (rz S e mode) ≤ frank (rz S' e' mode) := by
  obtain ⟨r1, r2, r3⟩ := rank_sign S e mode
  obtain ⟨q1, q2, q3⟩ := rank_sign S' e' mode
  obtain ⟨s1, s2⟩ := vs_sign S e T
  obtain ⟨s3, s4⟩ := vs_sign S' e' T
  have a1 := vs_abs S e T
  have a2 := vs_abs S' e' T
  rcases Int.lt_trichotomy S 0 with h1 | h1 | h1
  · rw [r1 h1]
    rcases Int.lt_trichotomy S' 0 with h2 | h2 | h2
    · rw [q1 h2]
      have := fla_mono (N := S'.natAbs) (N' := S.natAbs) (by omega) (by omega) e' e hT he' he (by rw [← a1, ← a2]; omega) true mode
      omega
    · rw [q3 h2]; omega
    · rw [q2 h2]; omega
  · rw [r3 h1]
    have h2 : ¬ S' < 0 := by rw [← s3]; have := s2.2 h1; omega
    rcases Int.lt_or_eq_of_le (show 0 ≤ S' by omega) with h3 | h3
    · rw [q2 h3]; omega
    · rw [q3 h3.symm]; exact Int.le_refl _
  · rw [r2 h1]
    have h2 : 0 < S' := by omega
    rw [q2 h2]
    have := fla_mono (N := S.natAbs) (N' := S'.natAbs) (by omega) (by omega) e e' hT he he' (by rw [← a1, ← a2]; omega) false mode
    omega

theorem fs_bounds (f T : Nat) : fs f T = (if fneg f then -1 else 1) * (fu (fmag f) T : Int) := by unfold fs; split <;> omega

/-- the floats' order is that of their values -/
theorem fs_rank {a b T : Nat} (ha : nanB a = false) (hb : nanB b = false) : (fs a T < fs b T ↔ frank a < frank b) ∧ (fs a T = fs b T ↔ frank a = frank b) := by
  have h1 := nanB_not ha
  have h2 := nanB_not hb
  have l1 := fu_lt_iff (T := T) h1 h2
  have l2 := fu_lt_iff (T := T) h2 h1
  have z1 := fu_lt_iff (T := T) (show 0 ≤ 9218868437227405312 by omega) h1
  have z2 := fu_lt_iff (T := T) (show 0 ≤ 9218868437227405312 by omega) h2
  rw [fu_zero] at z1 z2
  unfold fs frank
  constructor <;> cases fneg a <;> cases fneg b <;> simp <;> omega

theorem fs_zero {f T : Nat} (h : fmag f = 0) : fs f T = 0 := by unfold fs; rw [h, fu_zero]; split <;> rfl

theorem fs_sgz (s : Bool) {f : Nat} (T : Nat) (h : f ≤ 9218868437227405312) : fs (sgz s + f) T = if s then -(fu f T : Int) else (fu f T : Int) := by
  obtain ⟨h1, h2⟩ := fmag_sgz s (show f < 9223372036854775808 by omega)
  unfold fs
  rw [h1, h2]
theorem rank_sgz (s : Bool) {f : Nat} (h : f ≤ 9218868437227405312) : frank (sgz s + f) = if s then -(f : Int) else (f : Int) := by
  obtain ⟨h1, h2⟩ := fmag_sgz s (show f < 9223372036854775808 by omega)
  unfold frank
  rw [h1, h2]
theorem fin_sgz2 (s : Bool) {f : Nat} (h : f ≤ 9218868437227405312) : (finB (sgz s + f) = true ↔ f < 9218868437227405312) ∧ (finB (sgz s + f) = false ↔ f = 9218868437227405312) := by
  obtain ⟨h1, h2⟩ := fmag_sgz s (show f < 9223372036854775808 by omega)
  unfold finB
  rw [h1, decide_eq_true_iff, decide_eq_false_iff_not]
  omega

/-- downward and upward: on both sides, the same or next to one another, and to nearest is one of them -/
structure Enc (S e : Int) (T lo hi near : Nat) : Prop where
  fl : finB lo = true → fs lo T ≤ vs S e T
  fh : finB hi = true → vs S e T ≤ fs hi T
  loi : finB lo = false → lo = 18442240474082181120
  hii : finB hi = false → hi = 9218868437227405312
  same : (finB lo = true ∧ fs lo T = vs S e T ∨ finB hi = true ∧ fs hi T = vs S e T) → lo = hi ∧ near = lo
  next : (finB lo = true → fs lo T ≠ vs S e T) → (finB hi = true → fs hi T ≠ vs S e T) → frank hi = frank lo + 1 ∧ (near = lo ∨ near = hi)

theorem rnd_enc {S e : Int} {T : Nat} (h : S ≠ 0) (hT : 1074 ≤ T) (he : -(T : Int) ≤ e) : Enc S e T (rnd S e 1) (rnd S e 2) (rnd S e 0) := by
  have ha := vs_abs S e T
  obtain ⟨s1, s2⟩ := vs_sign S e T
  rcases fla_spec (N := S.natAbs) (by omega) e hT he with ⟨l, h1, h2, h3⟩ | ⟨l, b, h1⟩
  · -- exact
    rw [rnd_sgz, rnd_sgz, rnd_sgz, h2, h2, h2]
    obtain ⟨f1, f2⟩ := fin_sgz2 (decide (S < 0)) (f := l) (by omega)
    have hv : fs (sgz (decide (S < 0)) + l) T = vs S e T := by
      rw [fs_sgz _ _ (by omega), h3, ← ha]
      by_cases h4 : S < 0
      · rw [decide_eq_true h4, if_pos rfl]; have := s1.2 h4; omega
      · rw [decide_eq_false h4, if_neg (by simp)]
        have : ¬ vs S e T < 0 := fun h5 => h4 (s1.1 h5)
        omega
    refine ⟨fun _ => Int.le_of_eq hv, fun _ => Int.le_of_eq hv.symm, fun h5 => by have := f2.1 h5; omega, fun h5 => by have := f2.1 h5; omega, fun _ => ⟨rfl, rfl⟩, fun h5 => absurd hv (h5 (f1.2 h1))⟩
  · rw [rnd_sgz, rnd_sgz, rnd_sgz, h1.val, h1.val, h1.val]
    have hl := h1.lt
    have hab := h1.above
    have hbe := h1.below
    have r0 : fraise (decide (S < 0)) 0 b = b := rfl
    have r1 : fraise (decide (S < 0)) 1 b = decide (S < 0) := rfl
    have r2 : fraise (decide (S < 0)) 2 b = !decide (S < 0) := rfl
    rw [r0, r1, r2]
    by_cases h4 : S < 0
    · rw [decide_eq_true h4]
      have hn := s1.2 h4
      simp only [Bool.not_true, Bool.false_eq_true, if_true, if_false, Nat.add_zero]
      obtain ⟨f1, f2⟩ := fin_sgz2 true (f := l) (by omega)
      obtain ⟨f3, f4⟩ := fin_sgz2 true (f := l + 1) (by omega)
      have v1 := fs_sgz true (f := l) T (by omega)
      have v2 := fs_sgz true (f := l + 1) T (by omega)
      have k1 := rank_sgz true (f := l) (by omega)
      have k2 := rank_sgz true (f := l + 1) (by omega)
      simp only [if_true] at v1 v2 k1 k2
      refine ⟨fun h5 => ?_, fun h5 => ?_, fun h5 => ?_, fun h5 => ?_, fun h5 => ?_, fun h5 h6 => ⟨?_, ?_⟩⟩
      · rw [v2]; have := f3.1 h5; omega
      · rw [v1]; omega
      · have := f4.1 h5; rw [this]; rfl
      · have := f2.1 h5; omega
      · exfalso
        rcases h5 with ⟨h5, h6⟩ | ⟨h5, h6⟩
        · rw [v2] at h6; have := f3.1 h5; omega
        · rw [v1] at h6; omega
      · rw [k1, k2]; omega
      · cases b
        · right; simp
        · left; simp
    · rw [decide_eq_false h4]
      have hn : ¬ vs S e T < 0 := fun h5 => h4 (s1.1 h5)
      simp only [Bool.not_false, Bool.false_eq_true, if_true, if_false, Nat.add_zero]
      obtain ⟨f1, f2⟩ := fin_sgz2 false (f := l) (by omega)
      obtain ⟨f3, f4⟩ := fin_sgz2 false (f := l + 1) (by omega)
      have v1 := fs_sgz false (f := l) T (by omega)
      have v2 := fs_sgz false (f := l + 1) T (by omega)
      have k1 := rank_sgz false (f := l) (by omega)
      have k2 := rank_sgz false (f := l + 1) (by omega)
      simp only [Bool.false_eq_true, if_false] at v1 v2 k1 k2
      refine ⟨fun h5 => ?_, fun h5 => ?_, fun h5 => ?_, fun h5 => ?_, fun h5 => ?_, fun h5 h6 => ⟨?_, ?_⟩⟩
      · rw [v1]; omega
      · rw [v2]; have := f3.1 h5; omega
      · have := f2.1 h5; omega
      · have := f4.1 h5; rw [this]; rfl
      · exfalso
        rcases h5 with ⟨h5, h6⟩ | ⟨h5, h6⟩
        · rw [v1] at h6; omega
        · rw [v2] at h6; have := f3.1 h5; omega
      · rw [k1, k2]; omega
      · cases b
        · left; simp
        · right; simp

/-- a number that a float has room for is its own rounding -/
theorem fla_room {K j N : Nat} (hN : N = K * 2 ^ j) (h0 : N ≠ 0) (hK : K < 9007199254740992) (hT : N < fz 9218868437227405312) (neg : Bool) (mode : Int) :
    fla neg N (-1074) false mode < 9218868437227405312 ∧ fz (fla neg N (-1074) false mode) = N := by
  have hv : vu N (-1074) 1074 = N := by unfold vu; simp
  have hf : ∀ m, fu m 1074 = fz m := fun m => by unfold fu; simp
  rcases fla_spec h0 (-1074) (T := 1074) (by omega) (by omega) with ⟨l, h1, h2, h3⟩ | ⟨l, b, h⟩
  · rw [h2]
    rw [hf, hv] at h3
    exact ⟨h1, h3⟩
  · exfalso
    have h1 := h.lt
    have h2 := h.above
    have h3 := h.below
    rw [hf, hv] at h2
    rw [hf, hf, hv] at h3
    have h4 : N < fz (l + 1) := by
      rcases h3 with ⟨h3, h5⟩ | h3
      · omega
      · exact h3
    clear h3 h hf hv
    obtain ⟨q, k, hq, hk, hn, hm⟩ : ∃ q k, q ≤ 2045 ∧ k < 9007199254740992 ∧ (q = 0 ∨ 4503599627370496 ≤ k) ∧ l = q * 4503599627370496 + k := by
      by_cases h1 : l < 4503599627370496
      · exact ⟨0, l, by omega, by omega, by omega, by omega⟩
      · exact ⟨l / 4503599627370496 - 1, l % 4503599627370496 + 4503599627370496, by omega, by omega, by omega, by omega⟩
    rw [hm, fz_bits (by omega) hn hq] at h2
    rw [hm, Nat.add_assoc, fz_bits (by omega) (by omega) hq] at h4
    by_cases hjq : q ≤ j
    · obtain ⟨i, rfl⟩ : ∃ i, j = i + q := ⟨j - q, by omega⟩
      rw [Nat.pow_add, ← Nat.mul_assoc] at hN
      rw [hN] at h2 h4
      have g1 := Nat.lt_of_mul_lt_mul_right h2
      have g2 := Nat.lt_of_mul_lt_mul_right h4
      omega
    · obtain ⟨i, hi⟩ : ∃ i, q = i + 1 + j := ⟨q - j - 1, by omega⟩
      have hk2 : 4503599627370496 ≤ k := by omega
      rw [hN, hi, Nat.pow_add, ← Nat.mul_assoc] at h2
      have g1 := Nat.lt_of_mul_lt_mul_right h2
      have g2 : k * 2 ≤ k * 2 ^ (i + 1) := Nat.mul_le_mul_left _ (by rw [Nat.pow_succ]; have := Nat.pow_pos (n := i) (show 0 < 2 by omega); omega)
      omega

/-- a float's parts -/
theorem fz_parts (f : Nat) : fz f = sig f * 2 ^ fsh f := rfl
theorem fsh_mono {f g : Nat} (h : fmag f ≤ fmag g) : fsh f ≤ fsh g := by unfold fsh ffld; omega
theorem fz_mag (f : Nat) : fz (fmag f) = fz f := by
  have : fmag (fmag f) = fmag f := Nat.mod_eq_of_lt (fmag_lt f)
  unfold fz sig fsh ffld
  rw [this]

/-- Sterbenz: a difference that is not greater than the lesser number fits -/
theorem sterbenz_mag {f g : Nat} (hf : fmag f < 9218868437227405312) (hg : fmag g < 9218868437227405312) (h1 : fz g ≤ fz f) (h2 : fz f ≤ 2 * fz g) : ∃ K j, fz f - fz g = K * 2 ^ j ∧ K < 9007199254740992 ∧ fz f - fz g < fz 9218868437227405312 := by
  have hm : fmag g ≤ fmag f := by
    rcases Nat.lt_or_ge (fmag f) (fmag g) with h | h
    · have := fz_lt h (by omega)
      rw [fz_mag, fz_mag] at this
      omega
    · exact h
  have hs := fsh_mono hm
  have hp : 0 < 2 ^ fsh g := Nat.pow_pos (by omega)
  obtain ⟨i, hi⟩ : ∃ i, fsh f = i + fsh g := ⟨fsh f - fsh g, by omega⟩
  have e1 : fz f = sig f * 2 ^ i * 2 ^ fsh g := by rw [fz_parts, hi, Nat.pow_add, Nat.mul_assoc]
  have e2 := fz_parts g
  have hlt : fz f < fz 9218868437227405312 := by rw [← fz_mag f]; exact fz_lt hf (Nat.le_refl _)
  refine ⟨sig f * 2 ^ i - sig g, fsh g, ?_, ?_, by omega⟩
  · rw [Nat.sub_mul, ← e1, ← e2]
  · have h3 : (sig f * 2 ^ i - sig g) * 2 ^ fsh g ≤ sig g * 2 ^ fsh g := by rw [Nat.sub_mul, ← e1, ← e2]; omega
    have := Nat.le_of_mul_le_mul_right h3 hp
    have := sig_lt g
    omega
end Go.Proofs.YtjohpdobnedilaaDoor

/- Sums of finite floats, Sterbenz's lemma, as plain facts. -/
namespace Go.Proofs.YtjohpdobnedilaaDoor

theorem fzs_sgi (f : Nat) : fzs f = sgi (fneg f) (fz f) := rfl
theorem fs_fzs (f : Nat) : fs f 1074 = fzs f := by
  unfold fs fzs fu
  rw [fz_mag]
  simp
theorem sgi_mul (s : Bool) (A k : Nat) : sgi s (A * 2 ^ k) = sgi s A * 2 ^ k := by
  unfold sgi
  have : ((A * 2 ^ k : Nat) : Int) = (A : Int) * 2 ^ k := by rw [Int.natCast_mul, Int.natCast_pow]; rfl
  cases s
  · simp only [Bool.false_eq_true, if_false]; exact this
  · simp only [if_true]; rw [this, Int.neg_mul]
theorem rnd_up {S : Int} (h : S ≠ 0) (k : Nat) (e mode : Int) : rnd (S * 2 ^ k) (e - k) mode = rnd S e mode := by
  have hp : (0 : Int) < 2 ^ k := Int.pow_pos (by omega)
  have e1 : decide (S * 2 ^ k < 0) = decide (S < 0) := by
    refine decide_eq_decide.2 ⟨fun h1 => ?_, fun h1 => Int.mul_neg_of_neg_of_pos h1 hp⟩
    rcases Int.lt_or_le S 0 with h2 | h2
    · exact h2
    · exact absurd (Int.mul_nonneg h2 (Int.le_of_lt hp)) (by omega)
  have e2 : (S * 2 ^ k).natAbs = S.natAbs * 2 ^ k := by rw [Int.natAbs_mul, Int.natAbs_pow]; rfl
  rw [rnd_sgz, rnd_sgz, e1, e2]
  congr 1
  exact fla_eq _ (a := 0) (b := k) mode (Nat.mul_ne_zero (by omega) (Nat.pos_iff_ne_zero.1 (Nat.pow_pos (by omega)))) (by rw [Nat.pow_zero, Nat.mul_one]) (by omega)
theorem fz_self {b : Nat} (hb : finB b = true) (hz : zeroB b = false) (hl : b < 18446744073709551616) (mode : Int) : rnd (fzs b) (-1074) mode = b := by
  have h0 : fmag b ≠ 0 := of_decide_eq_false hz
  have h1 : fmag b < 9218868437227405312 := of_decide_eq_true hb
  have h2 : fz b ≠ 0 := fun h => h0 ((fz_zero b).1 h)
  have hp := f_parts hl
  rw [fzs_sgi, rnd_sgi _ h2, fla_fz _ h0 h1]
  exact hp.symm
theorem zero_fzs {a : Nat} (h : zeroB a = true) : fzs a = 0 := by
  unfold fzs
  rw [(zero_not h).2.2.2]
  split <;> rfl
theorem nz_fzs {a : Nat} (h : zeroB a = false) : fzs a ≠ 0 := by
  have h0 : fmag a ≠ 0 := of_decide_eq_false h
  have h2 : fz a ≠ 0 := fun h => h0 ((fz_zero a).1 h)
  unfold fzs
  split <;> omega

theorem pow_low_ne : (2 : Int) ^ low74 ≠ 0 := Int.ne_of_gt (Int.pow_pos (by omega))
/-- a sum of finite floats -/
theorem add_fin {a b : Nat} (mode : Int) (ha : finB a = true) (hb : finB b = true) (hbl : b < 18446744073709551616) :
    (fzs a + fzs b = 0 → fmag (faddF a b mode) = 0) ∧ (fzs a + fzs b ≠ 0 → faddF a b mode = rnd (fzs a + fzs b) (-1074) mode) := by
  obtain ⟨a1, a2⟩ := fin_not ha
  obtain ⟨b1, b2⟩ := fin_not hb
  unfold faddF
  rw [add_form, a1, a2, b1, b2]
  simp only [Bool.or_false, Bool.false_and, Bool.false_or, Bool.false_eq_true, if_false]
  cases hza : zeroB a
  · simp only [Bool.false_and, Bool.false_eq_true, if_false]
    rw [sgi_mul, sgi_mul, ← Int.add_mul, ← fzs_sgi, ← fzs_sgi]
    unfold rsum
    constructor
    · intro h
      rw [h, if_pos (Int.zero_mul _)]
      exact (cancel_num mode).2.2
    · intro h
      rw [if_neg (Int.mul_ne_zero h pow_low_ne), show (-2148 : Int) = -1074 - (low74 : Nat) from rfl, rnd_up h]
  · cases hzb : zeroB b
    · simp only [Bool.true_and, Bool.false_and, Bool.false_eq_true, if_false, if_true]
      rw [zero_fzs hza, Int.zero_add]
      exact ⟨fun h => absurd h (nz_fzs hzb), fun _ => (fz_self hb hzb hbl mode).symm⟩
    · rw [zero_fzs hza, zero_fzs hzb]
      refine ⟨fun _ => ?_, fun h => absurd rfl h⟩
      simp only [Bool.true_and, if_true]
      split
      · exact (cancel_num mode).2.2
      · exact (zero_not hzb).2.2.1
theorem add_rank {a b : Nat} (mode : Int) (ha : finB a = true) (hb : finB b = true) (hbl : b < 18446744073709551616) : frank (faddF a b mode) = frank (rz (fzs a + fzs b) (-1074) mode) := by
  obtain ⟨h1, h2⟩ := add_fin mode ha hb hbl
  unfold rz
  by_cases h : fzs a + fzs b = 0
  · rw [if_pos h, frank_zero (h1 h)]; decide
  · rw [if_neg h, h2 h]

theorem rank_inf {a : Nat} (ha : a < 18446744073709551616) (hi : infB a = true) : frank (9218868437227405312 + sgz (fneg a)) = frank a := by rw [inf_val ha hi]
theorem rank_le_inf {a : Nat} (hn : nanB a = false) : -9218868437227405312 ≤ frank a ∧ frank a ≤ 9218868437227405312 := by
  have := nanB_not hn
  unfold frank
  split <;> omega
theorem infB_rank {a : Nat} (hi : infB a = true) : frank a = (if fneg a then -9218868437227405312 else 9218868437227405312) := by
  have h : fmag a = 9218868437227405312 := of_decide_eq_true hi
  unfold frank
  rw [h]
  rfl
theorem fin_rank {a : Nat} (hf : finB a = true) : -9218868437227405312 < frank a ∧ frank a < 9218868437227405312 := by
  have h : fmag a < 9218868437227405312 := of_decide_eq_true hf
  unfold frank
  split <;> omega
theorem fin_or {a : Nat} (hn : nanB a = false) : finB a = true ∨ infB a = true := by
  have h1 := nanB_not hn
  unfold finB infB
  rw [decide_eq_true_iff, decide_eq_true_iff]
  omega
theorem fzs_mono {a b : Nat} (ha : nanB a = false) (hb : nanB b = false) (h : frank a ≤ frank b) : fzs a ≤ fzs b := by
  obtain ⟨h1, h2⟩ := fs_rank (T := 1074) ha hb
  rw [fs_fzs, fs_fzs] at h1 h2
  omega

/-- a sum with an infinity -/
theorem add_inf_left {a b : Nat} (mode : Int) (ha : a < 18446744073709551616) (hi : infB a = true) : nanB (faddF a b mode) = true ∨ frank (faddF a b mode) = frank a := by
  unfold faddF
  rw [add_form, hi, (inf_not hi).1]
  simp only [Bool.false_or, Bool.true_and, if_true]
  split
  · left; decide
  · split
    · left; decide
    · right; exact rank_inf ha hi
theorem add_inf_right {a b : Nat} (mode : Int) (hb : infB b = true) (ha : finB a = true) : frank (faddF a b mode) = frank b := by
  obtain ⟨a1, a2⟩ := fin_not ha
  obtain ⟨b1, b2⟩ := inf_not hb
  unfold faddF
  rw [add_form, hb, a1, a2, b1, b2]
  simp

/-- sums keep the order -/
theorem add_mono {f g h : Nat} (mode : Int) (hf : f < 18446744073709551616) (hg : g < 18446744073709551616) (hh : h < 18446744073709551616) (hfn : nanB f = false) (hgn : nanB g = false) (hle : frank f ≤ frank g)
    (h1 : nanB (faddF f h mode) = false) (h2 : nanB (faddF g h mode) = false) : frank (faddF f h mode) ≤ frank (faddF g h mode) := by
  cases hn : nanB h
  · rcases fin_or hfn with f1 | f1
    · rcases fin_or hgn with g1 | g1
      · rcases fin_or hn with k1 | k1
        · rw [add_rank mode f1 k1 hh, add_rank mode g1 k1 hh]
          have := fzs_mono hfn hgn hle
          refine rz_mono (T := 1074) (by omega) (by omega) (by omega) ?_ mode
          unfold vs
          simp
          omega
        · rw [add_inf_right mode k1 f1, add_inf_right mode k1 g1]
          exact Int.le_refl _
      · rcases add_inf_left (b := h) mode hg g1 with e | e
        · rw [e] at h2; cases h2
        · rw [e]
          have e2 := infB_rank g1
          have e3 := fin_rank f1
          have e4 := (rank_le_inf h1).2
          cases hs : fneg g
          · rw [hs] at e2; simp at e2; omega
          · rw [hs] at e2; simp at e2; omega
    · rcases add_inf_left (b := h) mode hf f1 with e | e
      · rw [e] at h1; cases h1
      · rw [e]
        have e2 := infB_rank f1
        have e4 := (rank_le_inf h2).1
        cases hs : fneg f
        · rw [hs] at e2; simp at e2
          rcases fin_or hgn with g1 | g1
          · have := fin_rank g1; omega
          · rcases add_inf_left (b := h) mode hg g1 with e5 | e5
            · rw [e5] at h2; cases h2
            · rw [e5]; exact hle
        · rw [hs] at e2; simp at e2; omega
  · exfalso
    unfold faddF at h1
    rw [add_form, hn] at h1
    simp only [Bool.or_true, if_true] at h1
    revert h1
    decide

theorem fabs_facts {a : Nat} (ha : finB a = true) : fabsF a = fmag a ∧ finB (fabsF a) = true ∧ fabsF a < 18446744073709551616 ∧ fzs (fabsF a) = (fz a : Int) ∧ fz (fabsF a) = fz a := by
  have h1 := (fin_not ha).1
  have h2 := fmag_lt a
  have h3 : fabsF a = fmag a := by unfold fabsF; rw [h1]; rfl
  have h4 : fmag (fmag a) = fmag a := Nat.mod_eq_of_lt h2
  have h5 : fneg (fmag a) = false := decide_eq_false (by omega)
  rw [h3]
  refine ⟨rfl, ?_, by omega, ?_, fz_mag a⟩
  · unfold finB at ha ⊢; rw [h4]; exact ha
  · unfold fzs; rw [h5, fz_mag]; rfl
theorem fneg_fzs {a : Nat} (ha : a < 18446744073709551616) (hf : finB a = true) : fzs (fnegF a) = -fzs a ∧ finB (fnegF a) = true := by
  obtain ⟨n1, n2, n3, n4, n5, -, -, n8⟩ := neg_facts ha (fin_not hf).1
  constructor
  · rw [fzs_sgi, fzs_sgi, n4, n5, sgi_not]
  · unfold finB at hf ⊢; rw [n8]; exact hf

/-- Sterbenz's lemma -/
theorem sterbenz {a b : Nat} (mode : Int) (ha : finB a = true) (hb : finB b = true) (h1 : fz b ≤ 2 * fz a) (h2 : fz a ≤ 2 * fz b) :
    finB (faddF (fabsF a) (fnegF (fabsF b)) mode) = true ∧ fzs (faddF (fabsF a) (fnegF (fabsF b)) mode) = (fz a : Int) - (fz b : Int) := by
  obtain ⟨a1, a2, a3, a4, a5⟩ := fabs_facts ha
  obtain ⟨b1, b2, b3, b4, b5⟩ := fabs_facts hb
  obtain ⟨n1, n2⟩ := fneg_fzs b3 b2
  obtain ⟨k1, k2⟩ := add_fin mode a2 n2 fnegF_lt
  rw [a4, n1, b4] at k1 k2
  have ma : fmag a < 9218868437227405312 := of_decide_eq_true ha
  have mb : fmag b < 9218868437227405312 := of_decide_eq_true hb
  by_cases h : (fz a : Int) + -(fz b : Int) = 0
  · have hz := k1 h
    constructor
    · unfold finB; rw [hz]; decide
    · rw [zero_fzs (decide_eq_true hz)]; omega
  · rw [k2 h]
    obtain ⟨-, -, r3, r4⟩ := rnd_facts ((fz a : Int) + -(fz b : Int)) (-1074) mode
    have key : fla (decide ((fz a : Int) + -(fz b : Int) < 0)) ((fz a : Int) + -(fz b : Int)).natAbs (-1074) false mode < 9218868437227405312 ∧ fz (fla (decide ((fz a : Int) + -(fz b : Int) < 0)) ((fz a : Int) + -(fz b : Int)).natAbs (-1074) false mode) = ((fz a : Int) + -(fz b : Int)).natAbs := by
      rcases Nat.le_total (fz b) (fz a) with h3 | h3
      · obtain ⟨K, j, q1, q2, q3⟩ := sterbenz_mag ma mb h3 h2
        have e : ((fz a : Int) + -(fz b : Int)).natAbs = fz a - fz b := by omega
        rw [e]
        exact fla_room q1 (by omega) q2 q3 _ _
      · obtain ⟨K, j, q1, q2, q3⟩ := sterbenz_mag mb ma h3 h1
        have e : ((fz a : Int) + -(fz b : Int)).natAbs = fz b - fz a := by omega
        rw [e]
        exact fla_room q1 (by omega) q2 q3 _ _
    constructor
    · unfold finB; rw [r4]; exact decide_eq_true key.1
    · unfold fzs
      rw [r3, ← fz_mag (rnd _ _ _), r4, key.2]
      by_cases h4 : (fz a : Int) + -(fz b : Int) < 0
      · rw [decide_eq_true h4, if_pos rfl]; omega
      · rw [decide_eq_false h4, if_neg (by simp)]; omega
end Go.Proofs.YtjohpdobnedilaaDoor

/- What a sum rounded to nearest leaves is a float again. No program stands here. -/
namespace Go.Proofs.YtjohpdobnedilaaDoor

/-- the distance of two naturals -/
def dist (a b : Nat) : Nat := (a - b) + (b - a)

theorem vu_74 (N : Nat) : vu N (-1074) 1074 = N := by unfold vu; simp
theorem fu_74 (m : Nat) : fu m 1074 = fz m := by unfold fu; simp

/-- to nearest: either exact, or between two neighbours and not farther than the other one -/
theorem near_cases {N s : Nat} (h0 : N ≠ 0) (neg : Bool) (hs : fla neg N (-1074) false 0 = s) (hf : s < 9218868437227405312) :
    fz s = N ∨ ∃ lo, fz lo < N ∧ N < fz (lo + 1) ∧ lo + 1 ≤ 9218868437227405312 ∧ ((s = lo ∧ 2 * N ≤ fz lo + fz (lo + 1)) ∨ (s = lo + 1 ∧ fz lo + fz (lo + 1) ≤ 2 * N)) := by
  rcases fla_spec h0 (-1074) (T := 1074) (by omega) (by omega) with ⟨l, h1, h2, h3⟩ | ⟨l, b, h⟩
  · left
    rw [vu_74, fu_74] at h3
    rw [← hs, h2]; exact h3
  · right
    have h1 := h.lt
    have h2 := h.above
    have h3 := h.below
    have h4 := h.near
    have h5 := h.val neg 0
    rw [hs] at h5
    rw [vu_74, fu_74] at h2
    rw [vu_74, fu_74, fu_74] at h3 h4
    have hr : fraise neg 0 b = b := by unfold fraise; simp
    rw [hr] at h5
    have hm := fz_lt_succ h1
    have hlt : N < fz (l + 1) := by
      rcases h3 with ⟨h3, h6⟩ | h3
      · rw [h3] at hm h4
        cases b
        · simp at h4; omega
        · simp at h5; omega
      · exact h3
    refine ⟨l, h2, hlt, by omega, ?_⟩
    cases b
    · left
      simp at h4 h5
      exact ⟨h5, by omega⟩
    · right
      simp at h4 h5
      exact ⟨h5, by omega⟩

/-- no float is nearer -/
theorem near_best {N s m : Nat} (h0 : N ≠ 0) (neg : Bool) (hs : fla neg N (-1074) false 0 = s) (hf : s < 9218868437227405312) (hm : m < 9218868437227405312) : dist N (fz s) ≤ dist N (fz m) := by
  unfold dist
  rcases near_cases h0 neg hs hf with h | ⟨lo, h1, h2, h3, h⟩
  · rw [h]; omega
  · have hc : fz m ≤ fz lo ∨ fz (lo + 1) ≤ fz m := by
      by_cases hml : m ≤ lo
      · left; exact fz_mono hml (by omega)
      · right; exact fz_mono (by omega) (by omega)
    rcases h with ⟨rfl, h⟩ | ⟨rfl, h⟩ <;> omega

/-- what is left is a multiple of what the sum is a multiple of -/
theorem near_mult {N s M j : Nat} (h0 : N ≠ 0) (neg : Bool) (hs : fla neg N (-1074) false 0 = s) (hf : s < 9218868437227405312) (hN : N = M * 2 ^ j) : ∃ K, dist N (fz s) = K * 2 ^ j := by
  rcases near_cases h0 neg hs hf with h | ⟨lo, h1, h2, h3, h⟩
  · exact ⟨0, by unfold dist; rw [h]; omega⟩
  · obtain ⟨q, k, hq, hk, hn, hm⟩ : ∃ q k, q ≤ 2045 ∧ k < 9007199254740992 ∧ (q = 0 ∨ 4503599627370496 ≤ k) ∧ lo = q * 4503599627370496 + k := by
      by_cases h1 : lo < 4503599627370496
      · exact ⟨0, lo, by omega, by omega, by omega, by omega⟩
      · exact ⟨lo / 4503599627370496 - 1, lo % 4503599627370496 + 4503599627370496, by omega, by omega, by omega, by omega⟩
    have e1 : fz lo = k * 2 ^ q := by rw [hm, fz_bits (by omega) hn hq]
    have e2 : fz (lo + 1) = (k + 1) * 2 ^ q := by rw [hm, Nat.add_assoc, fz_bits (by omega) (by omega) hq]
    have hjq : j ≤ q := by
      rcases Nat.lt_or_ge q j with hlt | hge
      · exfalso
        obtain ⟨i, rfl⟩ : ∃ i, j = i + q := ⟨j - q, by omega⟩
        rw [Nat.pow_add, ← Nat.mul_assoc] at hN
        rw [e1, hN] at h1
        rw [e2, hN] at h2
        have g1 := Nat.lt_of_mul_lt_mul_right h1
        have g2 := Nat.lt_of_mul_lt_mul_right h2
        omega
      · exact hge
    obtain ⟨i, rfl⟩ : ∃ i, q = i + j := ⟨q - j, by omega⟩
    rw [Nat.pow_add, ← Nat.mul_assoc] at e1 e2
    unfold dist
    rcases h with ⟨rfl, _⟩ | ⟨rfl, _⟩
    · refine ⟨M - k * 2 ^ i, ?_⟩
      rw [Nat.sub_mul, ← hN, ← e1]; omega
    · refine ⟨(k + 1) * 2 ^ i - M, ?_⟩
      rw [Nat.sub_mul, ← hN, ← e2]; omega

theorem fzs_mul (f : Nat) : fzs f = sgi (fneg f) (sig f) * 2 ^ fsh f := by rw [fzs_sgi, fz_parts, sgi_mul]

/-- the lesser exponent's number bounds what is left -/
theorem sum_rest_one {a b s : Nat} {V : Int} (hb : finB b = true) (ha : finB a = true) (hV : V = fzs a + fzs b) (h0 : V ≠ 0) (hj : fsh b ≤ fsh a) (neg : Bool) (hs : fla neg V.natAbs (-1074) false 0 = s) (hf : s < 9218868437227405312) :
    ∃ K j, dist V.natAbs (fz s) = K * 2 ^ j ∧ K < 9007199254740992 ∧ dist V.natAbs (fz s) < fz 9218868437227405312 := by
  obtain ⟨i, hi⟩ : ∃ i, fsh a = i + fsh b := ⟨fsh a - fsh b, by omega⟩
  have hma : fmag a < 9218868437227405312 := of_decide_eq_true ha
  have hmb : fmag b < 9218868437227405312 := of_decide_eq_true hb
  have hm : V = (sgi (fneg a) (sig a) * 2 ^ i + sgi (fneg b) (sig b)) * 2 ^ fsh b := by
    rw [hV, fzs_mul a, fzs_mul b, hi, Int.pow_add, Int.add_mul, Int.mul_assoc]
  have hN : V.natAbs = (sgi (fneg a) (sig a) * 2 ^ i + sgi (fneg b) (sig b)).natAbs * 2 ^ fsh b := by rw [hm, Int.natAbs_mul, Int.natAbs_pow]; rfl
  obtain ⟨K, hK⟩ := near_mult (by omega) neg hs hf hN
  have hbest : dist V.natAbs (fz s) ≤ fz b := by
    have ea : (fzs a).natAbs = fz a := by unfold fzs; split <;> omega
    have eb : (fzs b).natAbs = fz b := by unfold fzs; split <;> omega
    have h1 := near_best (m := fmag a) (by omega) neg hs hf hma
    have h2 := near_best (m := 0) (by omega) neg hs hf (by omega)
    rw [fz_mag] at h1
    rw [fz_zero0] at h2
    by_cases hsame : (0 ≤ V ∧ 0 ≤ fzs a) ∨ (V ≤ 0 ∧ fzs a ≤ 0)
    · refine Nat.le_trans h1 ?_
      unfold dist
      omega
    · refine Nat.le_trans h2 ?_
      unfold dist
      omega
  refine ⟨K, fsh b, hK, ?_, Nat.lt_of_le_of_lt hbest ?_⟩
  · rw [hK, fz_parts] at hbest
    have := Nat.le_of_mul_le_mul_right hbest (Nat.pow_pos (by omega))
    have := sig_lt b
    omega
  · rw [← fz_mag b]
    exact fz_lt hmb (Nat.le_refl _)

/-- the rest of a sum rounded to nearest has room in a float -/
theorem sum_rest {a b s : Nat} {V : Int} (ha : finB a = true) (hb : finB b = true) (hV : V = fzs a + fzs b) (h0 : V ≠ 0) (neg : Bool) (hs : fla neg V.natAbs (-1074) false 0 = s) (hf : s < 9218868437227405312) :
    ∃ K j, dist V.natAbs (fz s) = K * 2 ^ j ∧ K < 9007199254740992 ∧ dist V.natAbs (fz s) < fz 9218868437227405312 := by
  rcases Nat.le_total (fsh b) (fsh a) with h | h
  · exact sum_rest_one hb ha hV h0 h neg hs hf
  · exact sum_rest_one ha hb (by rw [hV, Int.add_comm]) h0 h neg hs hf
end Go.Proofs.YtjohpdobnedilaaDoor
