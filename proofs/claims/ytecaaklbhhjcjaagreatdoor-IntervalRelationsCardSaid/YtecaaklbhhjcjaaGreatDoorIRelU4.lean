import Derived.Test.YtecaaklbhhjcjaaGreatDoorIRelU3
import Derived.Shelf.Small.Bits
import Derived.Shelf.Bits.Mul64
import Derived.Shelf.Spec.BitsCarry
import Derived.Test.YtecaaklbhhjcjaaGreatDoorProg
import Derived.Test.YtecaaklbhhjcjaaGreatDoorIRelU1
import Derived.OwnWalk
import Derived.Deep.QuietTactic
import Derived.BigQuiet
namespace Go.Proofs.YtecaaklbhhjcjaaGreatDoor

theorem fplace_ge (N : Nat) (e : Int) : e + (Nat.log2 N : Int) - 52 ≤ fplace N e ∧ -1074 ≤ fplace N e ∧ (fplace N e = -1074 ∨ fplace N e = e + (Nat.log2 N : Int) - 52) := by unfold fplace; omega

/-- bits from place and significand -/
theorem fz_bits {q K : Nat} (hK : K ≤ 9007199254740992) (h : q = 0 ∨ 4503599627370496 ≤ K) (hq : q ≤ 2045) : fz (q * 4503599627370496 + K) = K * 2 ^ q := by
  have hm : fmag (q * 4503599627370496 + K) = q * 4503599627370496 + K := Nat.mod_eq_of_lt (by omega)
  unfold fz sig fsh ffld
  rw [hm]
  by_cases h1 : K < 4503599627370496
  · obtain rfl : q = 0 := by omega
    rw [if_pos (by omega), show (0 * 4503599627370496 + K) / 4503599627370496 - 1 = 0 by omega]
    simp
  · by_cases h2 : K = 9007199254740992
    · subst h2
      rw [if_neg (by omega), show (q * 4503599627370496 + 9007199254740992) % 4503599627370496 + 4503599627370496 = 4503599627370496 by omega, show (q * 4503599627370496 + 9007199254740992) / 4503599627370496 - 1 = q + 1 by omega, Nat.pow_succ]
      omega
    · rw [if_neg (by omega), show (q * 4503599627370496 + K) % 4503599627370496 + 4503599627370496 = K by omega, show (q * 4503599627370496 + K) / 4503599627370496 - 1 = q by omega]

/-- the next float's value: one unit more in the last place -/
theorem fz_succ {m : Nat} (h : m < 9218868437227405312) : fz (m + 1) = fz m + 2 ^ (m / 4503599627370496 - 1) := by
  obtain ⟨q, K, hq, hK, hn, hm⟩ : ∃ q K, q ≤ 2045 ∧ K < 9007199254740992 ∧ (q = 0 ∨ 4503599627370496 ≤ K) ∧ m = q * 4503599627370496 + K := by
    by_cases h1 : m < 4503599627370496
    · exact ⟨0, m, by omega, by omega, by omega, by omega⟩
    · exact ⟨m / 4503599627370496 - 1, m % 4503599627370496 + 4503599627370496, by omega, by omega, by omega, by omega⟩
  have e1 : m / 4503599627370496 - 1 = q := by omega
  rw [e1, hm, Nat.add_assoc, fz_bits (by omega) (by omega) hq, fz_bits (by omega) hn hq, Nat.add_mul, Nat.one_mul]

theorem fz_lt_succ {m : Nat} (h : m < 9218868437227405312) : fz m < fz (m + 1) := by
  rw [fz_succ h]
  exact Nat.lt_add_of_pos_right (Nat.pow_pos (by omega))
theorem fz_mono {m n : Nat} (h : m ≤ n) (hn : n ≤ 9218868437227405312) : fz m ≤ fz n := by
  induction n with
  | zero => rw [show m = 0 by omega]; exact Nat.le_refl _
  | succ n ih =>
    rcases Nat.lt_or_ge n m with h1 | h1
    · rw [show m = n + 1 by omega]; exact Nat.le_refl _
    · exact Nat.le_trans (ih h1 (by omega)) (Nat.le_of_lt (fz_lt_succ (by omega)))
theorem fz_lt {m n : Nat} (h : m < n) (hn : n ≤ 9218868437227405312) : fz m < fz n := Nat.lt_of_lt_of_le (fz_lt_succ (by omega)) (fz_mono (show m + 1 ≤ n from h) hn)
theorem fz_zero0 : fz 0 = 0 := by decide

/-- the value of N 2^e in units of 2^-T -/
def vu (N : Nat) (e : Int) (T : Nat) : Nat := N * 2 ^ (e + T).toNat
/-- .. of a float -/
def fu (m T : Nat) : Nat := fz m * 2 ^ (T - 1074)

theorem fu_lt {m n T : Nat} (h : m < n) (hn : n ≤ 9218868437227405312) : fu m T < fu n T := Nat.mul_lt_mul_of_pos_right (fz_lt h hn) (Nat.pow_pos (by omega))
theorem fu_le {m n T : Nat} (h : m ≤ n) (hn : n ≤ 9218868437227405312) : fu m T ≤ fu n T := Nat.mul_le_mul_right _ (fz_mono h hn)
theorem fu_lt_iff {m n T : Nat} (hm : m ≤ 9218868437227405312) (hn : n ≤ 9218868437227405312) : fu m T < fu n T ↔ m < n := by
  constructor
  · intro h
    rcases Nat.lt_or_ge m n with h1 | h1
    · exact h1
    · exact absurd (fu_le (T := T) h1 hm) (by omega)
  · intro h; exact fu_lt h hn
theorem fu_zero (T : Nat) : fu 0 T = 0 := by unfold fu; rw [fz_zero0, Nat.zero_mul]

/-- is the magnitude raised: b says so to nearest -/
def fraise (neg : Bool) (mode : Int) (b : Bool) : Bool := if mode = 1 then neg else if mode = 2 then !neg else if mode = 3 then false else b

/-- what rounding a magnitude does: lo is the greatest float that is not greater -/
structure Rd (N : Nat) (e : Int) (T lo : Nat) (b : Bool) : Prop where
  lt : lo < 9218868437227405312
  val : ∀ neg mode, fla neg N e false mode = lo + (if fraise neg mode b then 1 else 0)
  above : fu lo T < vu N e T
  below : lo + 1 = 9218868437227405312 ∧ fu 9218868437227405312 T ≤ vu N e T ∨ vu N e T < fu (lo + 1) T
  near : b = true ∧ fu lo T + fu (lo + 1) T < 2 * vu N e T ∨ b = false ∧ 2 * vu N e T < fu lo T + fu (lo + 1) T ∨ 2 * vu N e T = fu lo T + fu (lo + 1) T ∧ b = decide (lo % 2 = 1)
def Rx (N : Nat) (e : Int) (T lo : Nat) : Prop := lo < 9218868437227405312 ∧ (∀ neg mode, fla neg N e false mode = lo) ∧ fu lo T = vu N e T

def low46 : Nat := 2046
theorem fz_inf : fz 9218868437227405312 = 2 ^ 52 * 2 ^ low46 := by
  have h1 : sig 9218868437227405312 = 2 ^ 52 := by decide
  have h2 : fsh 9218868437227405312 = low46 := by decide
  unfold fz
  rw [h1, h2]

theorem fla_spec {N : Nat} (h0 : N ≠ 0) (e : Int) {T : Nat} (hT : 1074 ≤ T) (he : -(T : Int) ≤ e) : (∃ lo, Rx N e T lo) ∨ ∃ lo b, Rd N e T lo b := by
  obtain ⟨p1, p2, p3⟩ := fplace_ge N e
  have l1 := Nat.log2_self_le h0
  have l2 := @Nat.lt_log2_self N
  by_cases hg : e + (Nat.log2 N : Int) > 1023
  · -- too great
    right
    have hx : fu 9218868437227405312 T ≤ vu N e T := by
      unfold fu vu
      rw [fz_inf, ← Nat.pow_add, ← Nat.pow_add]
      have h2 : 2 ^ (Nat.log2 N) * 2 ^ (e + T).toNat ≤ N * 2 ^ (e + T).toNat := Nat.mul_le_mul_right _ l1
      rw [← Nat.pow_add] at h2
      exact Nat.le_trans (Nat.pow_le_pow_right (by omega) (by unfold low46; omega)) h2
    have hy : fu 9218868437227405311 T < fu 9218868437227405312 T := fu_lt (by omega) (Nat.le_refl _)
    refine ⟨9218868437227405311, true, by omega, ?_, by omega, Or.inl ⟨rfl, hx⟩, Or.inl ⟨rfl, ?_⟩⟩
    · intro neg mode
      unfold fla fover fraise
      rw [if_pos hg]
      by_cases m1 : mode = 1
      · rw [if_pos m1]; cases neg <;> rfl
      · rw [if_neg m1]
        by_cases m2 : mode = 2
        · rw [if_pos m2]; cases neg <;> rfl
        · rw [if_neg m2]
          by_cases m3 : mode = 3
          · rw [if_pos m3]; rfl
          · rw [if_neg m3]; rfl
    · show fu 9218868437227405311 T + fu (9218868437227405311 + 1) T < 2 * vu N e T
      rw [show 9218868437227405311 + 1 = 9218868437227405312 from rfl]
      omega
  · obtain ⟨q, hq⟩ : ∃ q : Nat, (q : Int) = fplace N e + 1074 := ⟨(fplace N e + 1074).toNat, by omega⟩
    have hq1 : q ≤ 2045 := by omega
    have hqn : (fplace N e + 1074).toNat = q := by omega
    by_cases hp : fplace N e ≤ e
    · -- exact
      left
      obtain ⟨i, hi⟩ : ∃ i : Nat, (i : Int) = e - fplace N e := ⟨(e - fplace N e).toNat, by omega⟩
      have hin : (e - fplace N e).toNat = i := by omega
      have hKl : N * 2 ^ i < 9007199254740992 := by
        have h2 : N * 2 ^ i < 2 ^ (Nat.log2 N + 1) * 2 ^ i := Nat.mul_lt_mul_of_pos_right l2 (Nat.pow_pos (by omega))
        rw [← Nat.pow_add] at h2
        exact Nat.lt_of_lt_of_le h2 (by rw [show 9007199254740992 = 2 ^ 53 from rfl]; exact Nat.pow_le_pow_right (by omega) (by omega))
      have hKn : q = 0 ∨ 4503599627370496 ≤ N * 2 ^ i := by
        rcases p3 with p3 | p3
        · left; omega
        · right
          have h2 : 2 ^ (Nat.log2 N) * 2 ^ i ≤ N * 2 ^ i := Nat.mul_le_mul_right _ l1
          rw [← Nat.pow_add, show Nat.log2 N + i = 52 by omega] at h2
          exact h2
      refine ⟨q * 4503599627370496 + N * 2 ^ i, by omega, ?_, ?_⟩
      · intro neg mode
        unfold fla
        rw [if_neg hg, if_pos hp, hqn, hin]
      · unfold fu vu
        rw [fz_bits (by omega) hKn hq1, Nat.mul_assoc, Nat.mul_assoc, ← Nat.pow_add, ← Nat.pow_add, show i + (q + (T - 1074)) = (e + T).toNat by omega]
    · obtain ⟨D, hD⟩ : ∃ D : Nat, (D : Int) = fplace N e - e := ⟨(fplace N e - e).toNat, by omega⟩
      have hDn : (fplace N e - e).toNat = D := by omega
      have hD0 : D ≠ 0 := by omega
      have hpD : 0 < 2 ^ D := Nat.pow_pos (by omega)
      have hdm := Nat.div_add_mod N (2 ^ D)
      have hml := Nat.mod_lt N hpD
      have hKl : N / 2 ^ D < 9007199254740992 := by
        rw [Nat.div_lt_iff_lt_mul hpD, show 9007199254740992 = 2 ^ 53 from rfl, ← Nat.pow_add]
        exact Nat.lt_of_lt_of_le l2 (Nat.pow_le_pow_right (by omega) (by omega))
      have hKn : q = 0 ∨ 4503599627370496 ≤ N / 2 ^ D := by
        rcases p3 with p3 | p3
        · left; omega
        · right
          rw [Nat.le_div_iff_mul_le hpD, show 4503599627370496 = 2 ^ 52 from rfl, ← Nat.pow_add, show 52 + D = Nat.log2 N by omega]
          exact l1
      obtain ⟨c, hc⟩ : ∃ c : Nat, c = (e + T).toNat := ⟨_, rfl⟩
      have hvu : vu N e T = (N / 2 ^ D * 2 ^ D + N % 2 ^ D) * 2 ^ c := by unfold vu; rw [← hc]; congr 1; rw [Nat.mul_comm]; omega
      have hlo : fu (q * 4503599627370496 + N / 2 ^ D) T = N / 2 ^ D * 2 ^ D * 2 ^ c := by
        unfold fu
        rw [fz_bits (by omega) hKn hq1, Nat.mul_assoc, Nat.mul_assoc, ← Nat.pow_add, ← Nat.pow_add, show q + (T - 1074) = D + c by omega]
      have hhi : fu (q * 4503599627370496 + N / 2 ^ D + 1) T = (N / 2 ^ D + 1) * 2 ^ D * 2 ^ c := by
        unfold fu
        rw [Nat.add_assoc, fz_bits (by omega) (by omega) hq1, Nat.mul_assoc, Nat.mul_assoc, ← Nat.pow_add, ← Nat.pow_add, show q + (T - 1074) = D + c by omega]
      have hv : ∀ neg mode, fla neg N e false mode = q * 4503599627370496 + N / 2 ^ D + (if fup neg mode (N / 2 ^ D) (N % 2 ^ D) (2 ^ D) false then 1 else 0) := by
        intro neg mode
        unfold fla
        rw [if_neg hg, if_neg hp, hqn, hDn]
      have hKo : decide (N / 2 ^ D % 2 = 1) = decide ((q * 4503599627370496 + N / 2 ^ D) % 2 = 1) := decide_eq_decide.2 (by omega)
      generalize N / 2 ^ D = K at *
      generalize N % 2 ^ D = r at *
      have hpc : 0 < 2 ^ c := Nat.pow_pos (by omega)
      have hlt : q * 4503599627370496 + K < 9218868437227405312 := by omega
      by_cases hr : r = 0
      · left
        subst hr
        refine ⟨q * 4503599627370496 + K, hlt, ?_, ?_⟩
        · intro neg mode
          rw [hv]
          have e3 : fup neg mode K 0 (2 ^ D) false = false := by
            unfold fup
            simp <;> omega
          rw [e3]
          simp only [Bool.false_eq_true, if_false, Nat.add_zero]
        · rw [hlo, hvu]; rfl
      · right
        generalize 2 ^ D = P at *
        generalize 2 ^ c = C at *
        have q1 : (K * P + r) * C = K * P * C + r * C := Nat.add_mul _ _ _
        have q2 : (K + 1) * P * C = K * P * C + P * C := by rw [Nat.add_mul K 1 P, Nat.one_mul, Nat.add_mul]
        have q3 : 0 < r * C := Nat.mul_pos (by omega) hpc
        have q4 : r * C < P * C := Nat.mul_lt_mul_of_pos_right hml hpc
        have q5 : 2 * (r * C) = 2 * r * C := by rw [Nat.mul_assoc]
        refine ⟨q * 4503599627370496 + K, decide (P < 2 * r) || decide (P = 2 * r) && decide (K % 2 = 1), hlt, ?_, ?_, ?_, ?_⟩
        · intro neg mode
          rw [hv]
          unfold fup fraise
          simp only [decide_eq_true hr, Bool.or_false, Bool.and_true, Bool.false_or]
        · rw [hlo, hvu]; omega
        · right; rw [hhi, hvu]; omega
        · rw [hlo, hhi, hvu, q1, q2]
          rcases Nat.lt_trichotomy P (2 * r) with h3 | h3 | h3
          · left
            have := Nat.mul_lt_mul_of_pos_right h3 hpc
            exact ⟨by rw [decide_eq_true h3]; rfl, by omega⟩
          · right; right
            have : P * C = 2 * r * C := by rw [h3]
            exact ⟨by omega, by rw [decide_eq_false (show ¬ P < 2 * r by omega), decide_eq_true h3, Bool.false_or, Bool.true_and]; exact hKo⟩
          · right; left
            have := Nat.mul_lt_mul_of_pos_right h3 hpc
            exact ⟨by rw [decide_eq_false (show ¬ P < 2 * r by omega), decide_eq_false (show ¬ P = 2 * r by omega)]; rfl, by omega⟩
end Go.Proofs.YtecaaklbhhjcjaaGreatDoor

namespace Go.Proofs.YtecaaklbhhjcjaaGreatDoor

theorem kept_lt {N k : Nat} (hk : Nat.log2 N + 1 ≤ 53 + k) : N / 2 ^ k < 9007199254740992 := by
  rw [Nat.div_lt_iff_lt_mul (Nat.pow_pos (by omega)), show (9007199254740992 : Nat) = 2 ^ 53 by decide, ← Nat.pow_add]
  refine Nat.lt_of_lt_of_le (Nat.lt_log2_self (n := N)) (Nat.pow_le_pow_right (by omega) hk)

theorem fla_le (neg : Bool) (N : Nat) (e : Int) (t : Bool) (mode : Int) : fla neg N e t mode ≤ 9218868437227405312 := by
  unfold fla
  split
  · split <;> omega
  · rename_i h
    have hP : fplace N e = max (e + (Nat.log2 N : Int) - 52) (-1074) := rfl
    split
    · rename_i h1
      obtain ⟨k, hk⟩ : ∃ k : Nat, (e - fplace N e).toNat = k := ⟨_, rfl⟩
      obtain ⟨p, hp⟩ : ∃ p : Nat, (fplace N e + 1074).toNat = p := ⟨_, rfl⟩
      rw [hk, hp]
      have hlt : N * 2 ^ k < 9007199254740992 := by
        rw [show (9007199254740992 : Nat) = 2 ^ 53 by decide]
        have h2 : N * 2 ^ k < 2 ^ (Nat.log2 N + 1) * 2 ^ k := Nat.mul_lt_mul_of_pos_right (Nat.lt_log2_self (n := N)) (Nat.pow_pos (by omega))
        rw [← Nat.pow_add] at h2
        exact Nat.lt_of_lt_of_le h2 (Nat.pow_le_pow_right (by omega) (by omega))
      have hp2 : p ≤ 2045 := by omega
      generalize N * 2 ^ k = x at *
      omega
    · rename_i h1
      obtain ⟨k, hk⟩ : ∃ k : Nat, (fplace N e - e).toNat = k := ⟨_, rfl⟩
      obtain ⟨p, hp⟩ : ∃ p : Nat, (fplace N e + 1074).toNat = p := ⟨_, rfl⟩
      rw [hk, hp]
      have hlt := kept_lt (N := N) (k := k) (by omega)
      have hp2 : p ≤ 2045 := by omega
      generalize N / 2 ^ k = x at *
      split <;> omega

theorem nan_mag {f : Nat} (s : Bool) (h : f ≤ 9218868437227405312) : nanB (sgz s + f) = false ∧ sgz s + f < 18446744073709551616 := by
  have h1 := sgz_le s
  have h2 : fmag (sgz s + f) = f := by unfold fmag sgz; split <;> omega
  exact ⟨decide_eq_false (by omega), by omega⟩
theorem cancel_num (mode : Int) : nanB (cancel mode) = false ∧ cancel mode < 18446744073709551616 ∧ fmag (cancel mode) = 0 := by
  unfold cancel
  split <;> decide
theorem rsum_num (S m mode : Int) : nanB (rsum S m mode) = false ∧ rsum S m mode < 18446744073709551616 := by
  unfold rsum
  split
  · exact ⟨(cancel_num mode).1, (cancel_num mode).2.1⟩
  · unfold rnd flr
    have h := fla_le (decide (S < 0)) S.natAbs m false mode
    exact nan_mag (decide (S < 0)) h
theorem fin_not {a : Nat} (h : finB a = true) : nanB a = false ∧ infB a = false := by
  have h1 : fmag a < 9218868437227405312 := of_decide_eq_true h
  exact ⟨decide_eq_false (by omega), decide_eq_false (by omega)⟩
theorem fin_one : finB 4607182418800017408 = true := by decide
theorem frank_zero {f : Nat} (h : fmag f = 0) : frank f = 0 := by unfold frank; rw [h]; split <;> rfl
end Go.Proofs.YtecaaklbhhjcjaaGreatDoor

namespace Go.Proofs
open Go.Shelf
def Tryz.lays134_ren : Go.Shelf.Ren := ⟨fun | 129 => 248 | 134 => 219 | n => n, fun | 3 => 3 | 4 => 4 | 5 => 5 | 9 => 9 | 46 => 121 | 53 => 37 | n => n, fun | n => n⟩
theorem Tryz.lays134 : Go.Proofs.Lays.n134 Tryz.prog Tryz.lays134_ren := {
  mixed := by kernel_rfl
  f129 := Tryz.func248.trans (congrArg some (by kernel_rfl))
  f134 := Tryz.func219.trans (congrArg some (by kernel_rfl))
  t3 := Tryz.underlying3
  a3 := Tryz.isAgg3
  z3 := Tryz.sizeOf3
  v3 := Tryz.zeroValue3
  t4 := Tryz.underlying4
  a4 := Tryz.isAgg4
  z4 := Tryz.sizeOf4
  v4 := Tryz.zeroValue4
  t5 := Tryz.underlying5
  a5 := Tryz.isAgg5
  z5 := Tryz.sizeOf5
  v5 := Tryz.zeroValue5
  t9 := Tryz.underlying9
  a9 := Tryz.isAgg9
  z9 := Tryz.sizeOf9
  v9 := Tryz.zeroValue9
  t46 := Tryz.underlying121
  a46 := Tryz.isAgg121
  z46 := Tryz.sizeOf121
  v46 := Tryz.zeroValue121
  t53 := Tryz.underlying37
  a53 := Tryz.isAgg37
  z53 := Tryz.sizeOf37
  v53 := Tryz.zeroValue37 }
theorem Tryz.bits_LeadingZeros64 (x : Int) (w : World) (h0 : 0 ≤ x) (h1 : x ≤ 18446744073709551615) :
    Calls Tryz.prog 219 #[.int .u64 x] w fun e w' => e = .returned (.int .i64 (64 - (Lib.bitLen x.toNat : Int))) ∧ w' = w := Any.bits_LeadingZeros64 Tryz.lays134 x w h0 h1
def Tryz.lays264_ren : Go.Shelf.Ren := ⟨fun | 264 => 239 | n => n, fun | 46 => 121 | 53 => 37 | n => n, fun | n => n⟩
theorem Tryz.lays264 : Go.Proofs.Lays.n264 Tryz.prog Tryz.lays264_ren := {
  mixed := by kernel_rfl
  f264 := Tryz.func239.trans (congrArg some (by kernel_rfl))
  t46 := Tryz.underlying121
  a46 := Tryz.isAgg121
  z46 := Tryz.sizeOf121
  v46 := Tryz.zeroValue121
  t53 := Tryz.underlying37
  a53 := Tryz.isAgg37
  z53 := Tryz.sizeOf37
  v53 := Tryz.zeroValue37 }
theorem Tryz.bits_Mul64 (x y : Nat) (hx : x < 18446744073709551616) (hy : y < 18446744073709551616) (w : World) :
    Calls Tryz.prog 239 #[.int .u64 x, .int .u64 y] w fun e w' => e = .returned (.tuple #[.int .u64 ((x * y / 18446744073709551616 : Nat) : Int), .int .u64 ((x * y % 18446744073709551616 : Nat) : Int)]) ∧ w' = w := Any.bits_Mul64 Tryz.lays264 x y hx hy w
def Tryz.lays7_25_ren : Go.Shelf.Ren := ⟨fun | 25 => 258 | n => n, fun | 22 => 37 | n => n, fun | n => n⟩
theorem Tryz.lays7_25 : Go.Proofs.Lays7.n25 Tryz.prog Tryz.lays7_25_ren := {
  mixed := by kernel_rfl
  f25 := Tryz.func258.trans (congrArg some (by kernel_rfl))
  t22 := Tryz.underlying37
  a22 := Tryz.isAgg37
  z22 := Tryz.sizeOf37
  v22 := Tryz.zeroValue37
  i22 := by kernel_rfl }
def Tryz.lays7_26_ren : Go.Shelf.Ren := ⟨fun | 26 => 259 | n => n, fun | 22 => 37 | n => n, fun | n => n⟩
theorem Tryz.lays7_26 : Go.Proofs.Lays7.n26 Tryz.prog Tryz.lays7_26_ren := {
  mixed := by kernel_rfl
  f26 := Tryz.func259.trans (congrArg some (by kernel_rfl))
  t22 := Tryz.underlying37
  a22 := Tryz.isAgg37
  z22 := Tryz.sizeOf37
  v22 := Tryz.zeroValue37
  i22 := by kernel_rfl }
theorem Tryz.bits_Add64 (x y c : Nat) (hc : c ≤ 1) (w : World) :
    (callFunc 258 #[.int .u64 x, .int .u64 y, .int .u64 c]).run Tryz.prog w =
      .ok (.value (.tuple #[.int .u64 (((x + y + c) % 18446744073709551616 : Nat) : Int), .int .u64 (((x + y + c) / 18446744073709551616 : Nat) : Int)])) w := Any7.bits_Add64 Tryz.lays7_25 x y c hc w
theorem Tryz.bits_Sub64 (x y b : Nat) (hb : b ≤ 1) (w : World) :
    (callFunc 259 #[.int .u64 x, .int .u64 y, .int .u64 b]).run Tryz.prog w =
      .ok (.value (.tuple #[.int .u64 (((x + 18446744073709551616 - y - b) % 18446744073709551616 : Nat) : Int), .int .u64 ((if x < y + b then 1 else 0 : Nat) : Int)])) w := Any7.bits_Sub64 Tryz.lays7_26 x y b hb w
end Go.Proofs

namespace Go.Proofs.YtecaaklbhhjcjaaGreatDoor
open Go.RowKit

theorem Tryz.infoU32 : (Tryz.prog.info? 63).map (fun i => (i.zero, i.size, i.bytes)) = some (some (.int .u32 0), 1, 4) := by kernel_rfl

theorem Tryz.sizeU32 : (Tryz.prog.info? 63).map (·.size) = some 1 := by kernel_rfl

/-- 'make([]uint32, n)': a new block of zeros -/
theorem wpList_make_u32 (w : World) {ops : Array Oper} {rest : List Oper} {o : Oper} {a : Act} {Q : Exit → Act → World → Prop}
    (hg : o.guard = none) (l c : Operand) (hop : o.op = Op.makeSlice 22 l c) (L : Int) (n : Nat)
    (hl : a.eval l = .int .i64 L) (hc : a.eval c = .int .i64 L) (hL : L = (n : Int)) (hn : n ≤ 1099511627776)
    (hK : ∀ w', Blk w' w.heap.size (List.replicate n 0) → Below w.heap.size w w' → wpList Tryz.prog ops Q rest (a.put o.dst (.slice (some ⟨w.heap.size, 0, none⟩) n n)) w') :
    wpList Tryz.prog ops Q (o :: rest) a w := by
  obtain ⟨i0, hi, hz0, hz1, hz2⟩ := info_parts Tryz.infoU32
  refine wpList_make_full w hg l c 22 hop w.heap.size 63 i0 (.int .u32 0) 1 Tryz.underlying22 hi hz0 hz1 _ _ _ _ n hl hc hL hL (by rw [hz2]; omega) (by unfold maxLen; omega) (Nat.le_refl _) ?_
  intro w' ho hgr
  exact hK w' (blk_made ho rfl) ((Below.refl _ w).grown hgr (Nat.le_refl _) (fun k hk => by cases hk))

set_option maxRecDepth 100000 in
set_option maxHeartbeats 400000 in
theorem clone_any (ao : Option Addr) (n cap : Nat) (zs : List Int) (w : World) (h : Sl w ao n cap zs) :
    Calls Tryz.prog 128 #[.slice ao n cap] w fun e w' => e = .returned (.slice (some ⟨w.heap.size, 0, none⟩) n n) ∧ Blk w' w.heap.size zs ∧ Below w.heap.size w w' := by
  have hn := h.big
  go_enter Tryz.func128, Tryz.ntmps128
  go_wp2_with (refine wpList_make_u32 _ rfl _ _ rfl _ n rfl rfl rfl hn ?_)
  intro w1 hb1 hw1
  go_wp2_with (with_reducible refine wpList_copy_u32 rfl (.tmp 7) (.tmp 8) rfl Tryz.underlying22 Tryz.sizeU32 _ 0 n n ao n cap rfl rfl _ hb1 zs (h.below hw1) (Nat.le_refl _) (by simp) ?_)
  intro w2 hb2 hw2
  go_wp2
  go_ret
  refine ⟨rfl, ?_, hw1.trans (hw2.below (Nat.le_refl _))⟩
  have := h.len
  simpa [splice, this] using hb2
end Go.Proofs.YtecaaklbhhjcjaaGreatDoor

namespace Go.Proofs.YtecaaklbhhjcjaaGreatDoor
open Go.RowKit

set_option maxRecDepth 100000 in
set_option maxHeartbeats 400000 in
theorem signed_zero (nb : Bool) (ao : Option Addr) (cap : Nat) (w : World) :
    Calls Tryz.prog 62 #[.bool nb, .slice ao 0 cap] w fun e w' => e = .returned (.agg #[.bool false, .slice none 0 0]) ∧ Below w.heap.size w w' := by
  go_enter Tryz.func62, Tryz.ntmps62
  go_wp2
  exact bodyPost_ret (v := .agg #[.bool false, .slice none 0 0]) (by simp [results, Tryz.results62, go_sem]) rfl ⟨rfl, ((Below.refl _ _).alloc (Nat.le_refl _) _)⟩
set_option maxRecDepth 100000 in
set_option maxHeartbeats 400000 in
theorem signed_pos (nb : Bool) (ao : Option Addr) (n cap : Nat) (w : World) (h : 0 < n) :
    Calls Tryz.prog 62 #[.bool nb, .slice ao n cap] w fun e w' => e = .returned (.agg #[.bool nb, .slice ao n cap]) ∧ Below w.heap.size w w' := by
  have hn : ((n : Int) == 0) = false := beq_eq_false_iff_ne.2 (by omega)
  go_enter Tryz.func62, Tryz.ntmps62
  go_wp2
  exact bodyPost_ret (v := .agg #[.bool nb, .slice ao n cap]) (by simp [results, Tryz.results62, go_sem]) rfl ⟨rfl, ((Below.refl _ _).alloc (Nat.le_refl _) _)⟩

/-- whatever the limbs: they stay, and zero is not negative -/
theorem signed_any (nb : Bool) (ao : Option Addr) (n cap : Nat) (zs : List Int) (w : World) (h : Sl w ao n cap zs) :
    Calls Tryz.prog 62 #[.bool nb, .slice ao n cap] w fun e w' => ∃ ao' cap', e = .returned (.agg #[.bool (nb && decide (0 < n)), .slice ao' n cap']) ∧ Sl w' ao' n cap' zs ∧ Below w.heap.size w w' := by
  by_cases h0 : 0 < n
  · refine (signed_pos nb ao n cap w h0).mono fun e w' ⟨he, hw⟩ => ⟨ao, cap, ?_, h.below hw, hw⟩
    rw [he]; simp [h0]
  · obtain rfl : n = 0 := by omega
    have hz : zs = [] := List.eq_nil_of_length_eq_zero h.len
    subst hz
    exact (signed_zero nb ao cap w).mono fun e w' ⟨he, hw⟩ => ⟨none, 0, by rw [he]; simp, Sl.nil w', hw⟩
end Go.Proofs.YtecaaklbhhjcjaaGreatDoor

namespace Go.Proofs.YtecaaklbhhjcjaaGreatDoor
open Go.RowKit

set_option maxRecDepth 100000 in
set_option maxHeartbeats 400000 in
theorem cmpInt_any (x y : Int) (w : World) : Calls Tryz.prog 125 #[.int .i64 x, .int .i64 y] w fun e w' => e = .returned (.int .i64 (sgn3 x y)) ∧ w = w' := by
  have hx : (x != x) = false := by simp
  have hy : (y != y) = false := by simp
  by_cases h1 : x < y
  · have e : sgn3 x y = -1 := by simp [sgn3, h1]
    have E := Lib.hid e; clear e
    go_enter Tryz.func125, Tryz.ntmps125
    go_wp2_with go_in
    go_ret
    exact ⟨by rw [E.out]; rfl, rfl⟩
  · by_cases h2 : y < x
    · have e : sgn3 x y = 1 := by simp [sgn3, h1, h2]
      have E := Lib.hid e; clear e
      go_enter Tryz.func125, Tryz.ntmps125
      go_wp2_with go_in
      go_ret
      exact ⟨by rw [E.out]; rfl, rfl⟩
    · have e : sgn3 x y = 0 := by simp [sgn3, h1, h2]
      have E := Lib.hid e; clear e
      go_enter Tryz.func125, Tryz.ntmps125
      go_wp2_with go_in
      go_ret
      exact ⟨by rw [E.out]; rfl, rfl⟩

set_option maxRecDepth 100000 in
set_option maxHeartbeats 400000 in
theorem cmpU32_any (x y : Int) (w : World) : Calls Tryz.prog 195 #[.int .u32 x, .int .u32 y] w fun e w' => e = .returned (.int .i64 (sgn3 x y)) ∧ w = w' := by
  have hx : (x != x) = false := by simp
  have hy : (y != y) = false := by simp
  by_cases h1 : x < y
  · have e : sgn3 x y = -1 := by simp [sgn3, h1]
    have E := Lib.hid e; clear e
    go_enter Tryz.func195, Tryz.ntmps195
    go_wp2_with go_in
    go_ret
    exact ⟨by rw [E.out]; rfl, rfl⟩
  · by_cases h2 : y < x
    · have e : sgn3 x y = 1 := by simp [sgn3, h1, h2]
      have E := Lib.hid e; clear e
      go_enter Tryz.func195, Tryz.ntmps195
      go_wp2_with go_in
      go_ret
      exact ⟨by rw [E.out]; rfl, rfl⟩
    · have e : sgn3 x y = 0 := by simp [sgn3, h1, h2]
      have E := Lib.hid e; clear e
      go_enter Tryz.func195, Tryz.ntmps195
      go_wp2_with go_in
      go_ret
      exact ⟨by rw [E.out]; rfl, rfl⟩

set_option maxRecDepth 100000 in
set_option maxHeartbeats 1000000 in
theorem compare_any (a b : Nat) (ao bo : Option Addr) (n m ca cb : Nat) (w : World) (ha : Sl w ao n ca (limbs a)) (hb : Sl w bo m cb (limbs b)) :
    Calls Tryz.prog 126 #[.slice ao n ca, .slice bo m cb] w fun e w' => e = .returned (.int .i64 (sgn3 a b)) ∧ ∃ q, w' = w.drewN q := by
  have hna := ha.big
  have hnb := hb.big
  by_cases hnm : n = m
  · subst hnm
    have h0 : ((n : Int) != n) = false := by simp
    go_enter Tryz.func126, Tryz.ntmps126
    go_wp2
    go_loopw [5] (fun i wr => ∃ k q : Nat, k ≤ n ∧ i = .int .i64 ((k : Int) - 1) ∧ (limbs a).drop k = (limbs b).drop k ∧ wr = w.drewN q) (fun i _ => (intOf i + 1).toNat)
    case atStart => exact ⟨n, 0, Nat.le_refl _, rfl, by rw [List.drop_eq_nil_of_le (by rw [ha.len]; exact Nat.le_refl _), List.drop_eq_nil_of_le (by rw [hb.len]; exact Nat.le_refl _)], rfl⟩
    case round =>
      obtain ⟨k, q, hk, rfl, hd, hw⟩ := hrel
      have HD := Lib.hid hd; clear hd
      subst hw
      by_cases hlt : 0 < k
      · obtain ⟨j, rfl⟩ : ∃ j, k = j + 1 := ⟨k - 1, by omega⟩
        obtain ⟨ba, oa, rfl, hca⟩ := ha.cells (by rw [ha.len]; omega)
        obtain ⟨bb, ob, rfl, hcb⟩ := hb.cells (by rw [hb.len]; omega)
        have c1 := hca j (by rw [ha.len]; omega)
        have c2 := hcb j (by rw [hb.len]; omega)
        clear hca hcb
        obtain ⟨x, hx⟩ : ∃ x, (limbs a).getD j 0 = x := ⟨_, rfl⟩
        obtain ⟨y, hy⟩ : ∃ y, (limbs b).getD j 0 = y := ⟨_, rfl⟩
        rw [hx] at c1
        rw [hy] at c2
        have HX := Lib.hid hx; clear hx
        have HY := Lib.hid hy; clear hy
        have ej : ((j + 1 : Nat) : Int) - 1 = (j : Int) := by omega
        rw [ej]
        clear ej
        by_cases hxy : x = y
        · subst hxy
          have hxx : (x != x) = false := by simp
          go_wp2
          go_quiet (fail)
          go_wp2
          go_roundw
          case rel => exact ⟨j, q + nq, by omega, by go_num, drop_eq_cons (by rw [ha.len]; omega) (by rw [hb.len]; omega) HD.out (by rw [HX.out, HY.out]), by simp [World.drewN]⟩
          case measure => simp [intOf] <;> omega
        · have hxx : (x != y) = true := by simp [hxy]
          have HN := Lib.hid hxy; clear hxy
          go_wp2
          go_quiet (fail)
          go_wp2
          go_quiet ((go_at_call 195; exact quiet_add_left (cmpU32_any _ _ _)))
          go_wp2
          go_ret
          refine ⟨?_, _, by rw [World.drewN_drewN, World.drewN_drewN]⟩
          have := sgn3_limb (a := a) (b := b) (by rw [ha.len, hb.len]) j (by rw [ha.len]; omega) HD.out (by rw [HX.out, HY.out]; exact HN.out)
          rw [HX.out, HY.out] at this
          rw [← this]; rfl
      · obtain rfl : k = 0 := by omega
        clear ha hb
        go_wp2
        go_ret
        refine ⟨?_, q, rfl⟩
        have hd := HD.out
        rw [List.drop_zero, List.drop_zero] at hd
        obtain rfl := limbs_inj hd
        simp [sgn3]
  · have h0 : ((n : Int) != m) = true := by simp; omega
    go_enter Tryz.func126, Tryz.ntmps126
    go_wp2_with (go_at_call 125; refine (cmpInt_any _ _ _).mono ?_; rintro e w' ⟨rfl, rfl⟩)
    go_ret
    refine ⟨?_, 0, rfl⟩
    have := sgn3_lens (a := a) (b := b) (by rw [ha.len, hb.len]; exact hnm)
    rw [ha.len, hb.len] at this
    rw [← this]; rfl
end Go.Proofs.YtecaaklbhhjcjaaGreatDoor
