import Derived.Test.YtekocoklfnojmaaDoorIUndoU31
import Derived.Test.YtekocoklfnojmaaDoorIUndoU29
namespace Go.Proofs.YtekocoklfnojmaaDoor

/-- a tail is a last one -/
theorem fla_sticky (neg : Bool) {Q : Nat} (e : Int) (mode : Int) (hQ : 2 ^ 53 ≤ Q) : fla neg Q e true mode = fla neg (2 * Q + 1) (e - 1) false mode := by
  have h := fla_tail neg (N := 2 * Q + 1) (e - 1) false mode 1 (by rw [Nat.pow_one]; omega)
  rw [Nat.pow_one, show (2 * Q + 1) / 2 = Q by omega, show (2 * Q + 1) % 2 = 1 by omega, show e - 1 + ((1 : Nat) : Int) = e by omega] at h
  exact h

/-- a float against an odd number of more than 53 bits: it lies at even ones -/
theorem fu_even (m : Nat) (e : Int) (T : Nat) : (∃ k, fu m T = 2 * k * 2 ^ (e - 1 + T).toNat) ∨ fu m T < 2 ^ 53 * 2 ^ (e - 1 + T).toNat := by
  unfold fu
  rw [fz_parts, Nat.mul_assoc, ← Nat.pow_add]
  obtain ⟨c, hc⟩ : ∃ c : Nat, (e - 1 + T).toNat = c := ⟨_, rfl⟩
  rw [hc]
  by_cases h : c < fsh m + (T - 1074)
  · left
    obtain ⟨d, hd⟩ : ∃ d, fsh m + (T - 1074) = d + 1 + c := ⟨fsh m + (T - 1074) - c - 1, by omega⟩
    refine ⟨sig m * 2 ^ d, ?_⟩
    rw [hd, Nat.pow_add, Nat.pow_succ', ← Nat.mul_assoc, ← Nat.mul_assoc, Nat.mul_comm (sig m) 2, Nat.mul_assoc 2 (sig m)]
  · right
    have h1 : sig m * 2 ^ (fsh m + (T - 1074)) < 2 ^ 53 * 2 ^ (fsh m + (T - 1074)) := Nat.mul_lt_mul_of_pos_right (sig_lt m) (Nat.pow_pos (by omega))
    exact Nat.lt_of_lt_of_le h1 (Nat.mul_le_mul_left _ (Nat.pow_le_pow_right (by omega) (by omega)))

/-- a truncated number with its tail: both roundings enclose it -/
theorem fla_trunc {Q : Nat} {e : Int} (t : Bool) {T : Nat} (hQ : 2 ^ 53 ≤ Q) (hT : 1074 ≤ T) (he : -(T : Int) ≤ e - 1) :
    fla false Q e t 1 < 9218868437227405312 ∧ fu (fla false Q e t 1) T ≤ vu Q e T ∧
    (fla false Q e t 2 = 9218868437227405312 ∨ fla false Q e t 2 < 9218868437227405312 ∧ vu (if t then Q + 1 else Q) e T ≤ fu (fla false Q e t 2) T) := by
  have hQ0 : Q ≠ 0 := by omega
  cases t with
  | false =>
    simp only [Bool.false_eq_true, if_false]
    rcases fla_spec hQ0 e hT (by omega) with ⟨l, h1, h2, h3⟩ | ⟨l, b, h⟩
    · rw [h2, h2]
      exact ⟨h1, by omega, Or.inr ⟨h1, by omega⟩⟩
    · rw [h.val, h.val]
      have r1 : fraise false 1 b = false := rfl
      have r2 : fraise false 2 b = true := rfl
      rw [r1, r2]
      simp only [Bool.false_eq_true, if_false, if_true, Nat.add_zero]
      have := h.lt
      refine ⟨h.lt, Nat.le_of_lt h.above, ?_⟩
      rcases h.below with ⟨g, _⟩ | g
      · left; exact g
      · by_cases hi : l + 1 = 9218868437227405312
        · left; exact hi
        · right; exact ⟨by omega, Nat.le_of_lt g⟩
  | true =>
    simp only [if_true]
    rw [fla_sticky false e 1 hQ, fla_sticky false e 2 hQ]
    have hv : vu (2 * Q + 1) (e - 1) T = (2 * Q + 1) * 2 ^ (e - 1 + T).toNat := rfl
    have hq : ∀ q, vu q e T = 2 * q * 2 ^ (e - 1 + T).toNat := by
      intro q
      unfold vu
      rw [show (e + T).toNat = (e - 1 + T).toNat + 1 by omega, Nat.pow_succ', ← Nat.mul_assoc, Nat.mul_comm q 2]
    have hpos : 0 < 2 ^ (e - 1 + T).toNat := Nat.pow_pos (by omega)
    have hbig : 2 ^ 53 * 2 ^ (e - 1 + T).toNat ≤ 2 * Q * 2 ^ (e - 1 + T).toNat := Nat.mul_le_mul_right _ (by omega)
    have hlt : 2 * Q * 2 ^ (e - 1 + T).toNat < (2 * Q + 1) * 2 ^ (e - 1 + T).toNat := Nat.mul_lt_mul_of_pos_right (by omega) hpos
    -- below the odd number: at most the even one before; above: at least the one behind
    have lo : ∀ m, fu m T < vu (2 * Q + 1) (e - 1) T → fu m T ≤ vu Q e T := by
      intro m h
      rw [hv] at h
      rw [hq]
      rcases fu_even m e T with ⟨k, hk⟩ | h1
      · rw [hk] at h ⊢
        have := Nat.lt_of_mul_lt_mul_right h
        exact Nat.mul_le_mul_right _ (by omega)
      · omega
    have up : ∀ m, vu (2 * Q + 1) (e - 1) T < fu m T → vu (Q + 1) e T ≤ fu m T := by
      intro m h
      rw [hv] at h
      rw [hq]
      rcases fu_even m e T with ⟨k, hk⟩ | h1
      · rw [hk] at h ⊢
        have := Nat.lt_of_mul_lt_mul_right h
        exact Nat.mul_le_mul_right _ (by omega)
      · omega
    rcases fla_spec (N := 2 * Q + 1) (by omega) (e - 1) hT he with ⟨l, h1, h2, h3⟩ | ⟨l, b, h⟩
    · exfalso
      rw [hv] at h3
      rcases fu_even l e T with ⟨k, hk⟩ | h4
      · rw [hk] at h3
        have := Nat.eq_of_mul_eq_mul_right hpos h3
        omega
      · omega
    · rw [h.val, h.val]
      have r1 : fraise false 1 b = false := rfl
      have r2 : fraise false 2 b = true := rfl
      rw [r1, r2]
      simp only [Bool.false_eq_true, if_false, if_true, Nat.add_zero]
      have := h.lt
      refine ⟨h.lt, lo l h.above, ?_⟩
      rcases h.below with ⟨g, _⟩ | g
      · left; exact g
      · by_cases hi : l + 1 = 9218868437227405312
        · left; exact hi
        · right; exact ⟨by omega, up (l + 1) g⟩

theorem quo_parts {N D : Nat} : quoX N = quoX N / quoY D * quoY D + quoX N % quoY D := by have := Nat.div_add_mod (quoX N) (quoY D); rw [Nat.mul_comm] at this; exact this.symm

/-- directed quotients of positive floats enclose the exact one -/
theorem div_encl {a b : Nat} (ha : finB a = true) (hb : finB b = true) (za : zeroB a = false) (zb : zeroB b = false) (sa : fneg a = false) (sb : fneg b = false) :
    finB (fdivF a b 1) = true ∧ fneg (fdivF a b 1) = false ∧ fneg (fdivF a b 2) = false ∧ nanB (fdivF a b 2) = false ∧ fz (fdivF a b 1) * fz b ≤ fz a * 2 ^ low74 ∧ (finB (fdivF a b 2) = true → fz a * 2 ^ low74 ≤ fz (fdivF a b 2) * fz b) := by
  obtain ⟨a1, a2⟩ := fin_not ha
  obtain ⟨b1, b2⟩ := fin_not hb
  have hN0 : sig a ≠ 0 := fun h => by have := (sig_zero a).1 h; unfold zeroB at za; rw [this] at za; simp at za
  have hD0 : sig b ≠ 0 := fun h => by have := (sig_zero b).1 h; unfold zeroB at zb; rw [this] at zb; simp at zb
  have hNl := sig_lt a
  have hDl := sig_lt b
  have hsa := fsh_lt a
  have hsb := fsh_lt b
  have e0 : ∀ mode, fdivF a b mode = fla false (quoX (sig a) / quoY (sig b)) (quoE (sig a) (sig b) (-1074 + (fsh a : Int)) (-1074 + (fsh b : Int))) (decide (quoX (sig a) % quoY (sig b) ≠ 0)) mode := by
    intro mode
    unfold fdivF
    rw [a1, a2, b1, b2, za, zb, sa, sb]
    simp [sgz]
  have hfa : fz a = sig a * 2 ^ fsh a := rfl
  have hfb : fz b = sig b * 2 ^ fsh b := rfl
  rw [e0, e0, hfa, hfb]
  generalize sig a = N at *
  generalize sig b = D at *
  generalize fsh a = p at *
  generalize fsh b = q at *
  have n1 := Nat.log2_self_le hN0
  have n2 := @Nat.lt_log2_self N
  have d1 := Nat.log2_self_le hD0
  have d2 := @Nat.lt_log2_self D
  have n3 : Nat.log2 N < 53 := (Nat.log2_lt hN0).2 (by omega)
  have d3 : Nat.log2 D < 53 := (Nat.log2_lt hD0).2 (by omega)
  obtain ⟨i, hi⟩ : ∃ i, 127 - Nat.log2 N = i := ⟨_, rfl⟩
  obtain ⟨j, hj⟩ : ∃ j, 63 - Nat.log2 D = j := ⟨_, rfl⟩
  have hE : quoE N D (-1074 + (p : Int)) (-1074 + (q : Int)) = (p : Int) - q - i + j := by unfold quoE; rw [hi]; omega
  have hX : quoX N = N * 2 ^ i := by unfold quoX; rw [hi]
  have hY : quoY D = D * 2 ^ j := by unfold quoY; rw [hj]
  have hXb : 2 ^ 127 ≤ quoX N := by
    rw [hX]
    have : 2 ^ Nat.log2 N * 2 ^ i ≤ N * 2 ^ i := Nat.mul_le_mul_right _ n1
    rwa [← Nat.pow_add, show Nat.log2 N + i = 127 by omega] at this
  have hYb : quoY D < 2 ^ 64 := by
    rw [hY]
    have : D * 2 ^ j < 2 ^ (Nat.log2 D + 1) * 2 ^ j := Nat.mul_lt_mul_of_pos_right d2 (Nat.pow_pos (by omega))
    rwa [← Nat.pow_add, show Nat.log2 D + 1 + j = 64 by omega] at this
  have hY0 : 0 < quoY D := by rw [hY]; exact Nat.mul_pos (by omega) (Nat.pow_pos (by omega))
  have hQ : 2 ^ 53 ≤ quoX N / quoY D := by
    rw [Nat.le_div_iff_mul_le hY0]
    have : 2 ^ 53 * quoY D ≤ 2 ^ 53 * 2 ^ 64 := Nat.mul_le_mul_left _ (Nat.le_of_lt hYb)
    omega
  have hpar := @quo_parts N D
  have hr := Nat.mod_lt (quoX N) hY0
  rw [hE]
  generalize quoX N / quoY D = Q at *
  generalize quoX N % quoY D = r at *
  obtain ⟨T, hT⟩ : ∃ T : Nat, T = 10000 := ⟨_, rfl⟩
  obtain ⟨k1, k2, k3⟩ := fla_trunc (Q := Q) (e := (p : Int) - q - i + j) (decide (r ≠ 0)) (T := T) hQ (by omega) (by omega)
  have hm1 : ∀ f, f ≤ 9218868437227405312 → fmag f = f ∧ fneg f = false := fun f h => ⟨Nat.mod_eq_of_lt (by omega), decide_eq_false (by omega)⟩
  obtain ⟨m1, m2⟩ := hm1 _ (Nat.le_of_lt k1)
  have l2 := fla_le false Q ((p : Int) - q - i + j) (decide (r ≠ 0)) 2
  obtain ⟨m3, m4⟩ := hm1 _ l2
  generalize fla false Q ((p : Int) - q - i + j) (decide (r ≠ 0)) 1 = lo at *
  generalize fla false Q ((p : Int) - q - i + j) (decide (r ≠ 0)) 2 = hi2 at *
  obtain ⟨c, hc⟩ : ∃ c : Nat, (c : Int) = (p : Int) - q - i + j + T := ⟨((p : Int) - q - i + j + T).toNat, by omega⟩
  have hv : ∀ x, vu x ((p : Int) - q - i + j) T = x * 2 ^ c := fun x => by unfold vu; rw [show ((p : Int) - q - i + j + (T : Int)).toNat = c by omega]
  rw [hv] at k2 k3
  unfold fu at k2 k3
  obtain ⟨u, hu⟩ : ∃ u, T - 1074 = u := ⟨_, rfl⟩
  rw [hu] at k2 k3
  have hP : 0 < 2 ^ (u + j) := Nat.pow_pos (by omega)
  -- both sides times 2^(u + j)
  have eR : N * 2 ^ p * 2 ^ low74 * 2 ^ (u + j) = quoX N * 2 ^ (c + q) := by
    rw [hX, Nat.mul_assoc, Nat.mul_assoc, ← Nat.pow_add, ← Nat.pow_add, Nat.mul_assoc, ← Nat.pow_add]
    refine congrArg (fun x => N * 2 ^ x) ?_
    unfold low74
    omega
  have eL : ∀ x, x * (D * 2 ^ q) * 2 ^ (u + j) = x * 2 ^ u * (quoY D * 2 ^ q) := by
    intro x
    rw [hY, Nat.pow_add]
    simp only [Nat.mul_comm, Nat.mul_left_comm, Nat.mul_assoc]
  refine ⟨by unfold finB; rw [m1]; exact decide_eq_true k1, m2, m4, decide_eq_false (by omega), ?_, fun hf => ?_⟩
  · refine Nat.le_of_mul_le_mul_right ?_ hP
    rw [eL, eR, Nat.pow_add, ← Nat.mul_assoc, ← Nat.mul_assoc]
    refine Nat.mul_le_mul_right _ ?_
    have h1 : fz lo * 2 ^ u * quoY D ≤ Q * 2 ^ c * quoY D := Nat.mul_le_mul_right _ k2
    have h2 : Q * 2 ^ c * quoY D = Q * quoY D * 2 ^ c := by simp only [Nat.mul_comm, Nat.mul_left_comm, Nat.mul_assoc]
    have h3 : Q * quoY D * 2 ^ c ≤ quoX N * 2 ^ c := Nat.mul_le_mul_right _ (by omega)
    omega
  · have hk3 : (if decide (r ≠ 0) = true then Q + 1 else Q) * 2 ^ c ≤ fz hi2 * 2 ^ u := by
      rcases k3 with k3 | ⟨_, k3⟩
      · have : fmag hi2 < 9218868437227405312 := of_decide_eq_true hf
        omega
      · exact k3
    refine Nat.le_of_mul_le_mul_right ?_ hP
    rw [eL, eR, Nat.pow_add, ← Nat.mul_assoc, ← Nat.mul_assoc]
    refine Nat.mul_le_mul_right _ ?_
    have h1 := Nat.mul_le_mul_right (quoY D) hk3
    have h2 : ∀ x, x * 2 ^ c * quoY D = x * quoY D * 2 ^ c := fun x => by simp only [Nat.mul_comm, Nat.mul_left_comm, Nat.mul_assoc]
    rw [h2] at h1
    refine Nat.le_trans ?_ h1
    refine Nat.mul_le_mul_right _ ?_
    by_cases h0 : r = 0
    · rw [if_neg (by simp [h0])]; omega
    · rw [if_pos (by simp [h0]), Nat.add_mul, Nat.one_mul]; omega

/-- Newton's iteration for a root, from above -/
theorem newton_end {N r s : Nat} (h2 : N < (s + 1) * (s + 1)) (hs : s ≤ r) (hr : 0 < r) (hq : r ≤ N / r) : r = s := by
  have h1 := (Nat.le_div_iff_mul_le hr).1 hq
  rcases Nat.lt_or_ge s r with h | h
  · have := Nat.mul_le_mul (show s + 1 ≤ r from h) (show s + 1 ≤ r from h)
    omega
  · omega
theorem newton_down {N r s : Nat} (h1 : s * s ≤ N) (hs : s ≤ r) (hr : 0 < r) (hq : N / r < r) : s ≤ (r + N / r) / 2 ∧ (r + N / r) / 2 < r := by
  refine ⟨?_, by omega⟩
  have h : 2 * s ≤ r + N / r := by
    obtain ⟨d, hd⟩ : ∃ d, r = s + d := ⟨r - s, by omega⟩
    by_cases hds : d ≤ s
    · have h3 : (s - d) ≤ N / r := by
        rw [Nat.le_div_iff_mul_le hr, hd]
        obtain ⟨f, hf⟩ : ∃ f, s = f + d := ⟨s - d, by omega⟩
        have e1 : (s - d) * (s + d) + d * d = s * s := by
          rw [hf, Nat.add_sub_cancel]
          simp only [Nat.mul_add, Nat.mul_comm]
          omega
        omega
      omega
    · generalize N / r = z at *
      omega
  omega
/-- the last word of the square tells whether the root is exact -/
theorem exact_word {hi lo r : Nat} (h1 : r * r ≤ hi * 18446744073709551616 + lo) (h2 : hi * 18446744073709551616 + lo < (r + 1) * (r + 1)) (hr : r < 9223372036854775808) (hl : lo < 18446744073709551616) : r * r % 18446744073709551616 = lo ↔ r * r = hi * 18446744073709551616 + lo := by
  have e : (r + 1) * (r + 1) = r * r + 2 * r + 1 := by rw [Nat.add_mul, Nat.mul_add]; omega
  rw [e] at h2
  generalize r * r = q at *
  constructor <;> intro h <;> omega
end Go.Proofs.YtekocoklfnojmaaDoor
