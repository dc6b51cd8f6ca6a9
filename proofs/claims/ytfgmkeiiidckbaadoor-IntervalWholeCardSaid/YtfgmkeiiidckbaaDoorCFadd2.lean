/- Sums of finite floats, Sterbenz's lemma, as plain facts. -/
import Derived.Test.YtfgmkeiiidckbaaDoorCFmono
namespace Go.Proofs.YtfgmkeiiidckbaaDoor

theorem fzs_sgi (f : Nat) : fzs f = sgi (fneg f) (fz f) := rfl
theorem fs_fzs (f : Nat) : fs f 1074 = fzs f := by
  unfold fs fzs fu
  rw [fz_mag]
  simp
theorem sgi_mul (s : Bool) (A k : Nat) : sgi s (A * 2 ^ k) = sgi s A * 2 ^ k := by
  unfold sgi
  have : ((A * 2 ^ k : Nat) : Int) = (A : Int) * 2 ^ k := by rw [Int.natCast_mul, Int.natCast_pow]; rfl
  cases s
  · simp only [Bool.false_eq_true, if_false]; exact this
  · simp only [if_true]; rw [this, Int.neg_mul]
theorem rnd_up {S : Int} (h : S ≠ 0) (k : Nat) (e mode : Int) : rnd (S * 2 ^ k) (e - k) mode = rnd S e mode := by
  have hp : (0 : Int) < 2 ^ k := Int.pow_pos (by omega)
  have e1 : decide (S * 2 ^ k < 0) = decide (S < 0) := by
    refine decide_eq_decide.2 ⟨fun h1 => ?_, fun h1 => Int.mul_neg_of_neg_of_pos h1 hp⟩
    rcases Int.lt_or_le S 0 with h2 | h2
    · exact h2
    · exact absurd (Int.mul_nonneg h2 (Int.le_of_lt hp)) (by omega)
  have e2 : (S * 2 ^ k).natAbs = S.natAbs * 2 ^ k := by rw [Int.natAbs_mul, Int.natAbs_pow]; rfl
  rw [rnd_sgz, rnd_sgz, e1, e2]
  congr 1
  exact fla_eq _ (a := 0) (b := k) mode (Nat.mul_ne_zero (by omega) (Nat.pos_iff_ne_zero.1 (Nat.pow_pos (by omega)))) (by rw [Nat.pow_zero, Nat.mul_one]) (by omega)
theorem fz_self {b : Nat} (hb : finB b = true) (hz : zeroB b = false) (hl : b < 18446744073709551616) (mode : Int) : rnd (fzs b) (-1074) mode = b := by
  have h0 : fmag b ≠ 0 := of_decide_eq_false hz
  have h1 : fmag b < 9218868437227405312 := of_decide_eq_true hb
  have h2 : fz b ≠ 0 := fun h => h0 ((fz_zero b).1 h)
  have hp := f_parts hl
  rw [fzs_sgi, rnd_sgi _ h2, fla_fz _ h0 h1]
  exact hp.symm
theorem zero_fzs {a : Nat} (h : zeroB a = true) : fzs a = 0 := by
  unfold fzs
  rw [(zero_not h).2.2.2]
  split <;> rfl
theorem nz_fzs {a : Nat} (h : zeroB a = false) : fzs a ≠ 0 := by
  have h0 : fmag a ≠ 0 := of_decide_eq_false h
  have h2 : fz a ≠ 0 := fun h => h0 ((fz_zero a).1 h)
  unfold fzs
  split <;> omega

theorem pow_low_ne : (2 : Int) ^ low74 ≠ 0 := Int.ne_of_gt (Int.pow_pos (by omega))
/-- a sum of finite floats -/
theorem add_fin {a b : Nat} (mode : Int) (ha : finB a = true) (hb : finB b = true) (hbl : b < 18446744073709551616) :
    (fzs a + fzs b = 0 → fmag (faddF a b mode) = 0) ∧ (fzs a + fzs b ≠ 0 → faddF a b mode = rnd (fzs a + fzs b) (-1074) mode) := by
  obtain ⟨a1, a2⟩ := fin_not ha
  obtain ⟨b1, b2⟩ := fin_not hb
  unfold faddF
  rw [add_form, a1, a2, b1, b2]
  simp only [Bool.or_false, Bool.false_and, Bool.false_or, Bool.false_eq_true, if_false]
  cases hza : zeroB a
  · simp only [Bool.false_and, Bool.false_eq_true, if_false]
    rw [sgi_mul, sgi_mul, ← Int.add_mul, ← fzs_sgi, ← fzs_sgi]
    unfold rsum
    constructor
    · intro h
      rw [h, if_pos (Int.zero_mul _)]
      exact (cancel_num mode).2.2
    · intro h
      rw [if_neg (Int.mul_ne_zero h pow_low_ne), show (-2148 : Int) = -1074 - (low74 : Nat) from rfl, rnd_up h]
  · cases hzb : zeroB b
    · simp only [Bool.true_and, Bool.false_and, Bool.false_eq_true, if_false, if_true]
      rw [zero_fzs hza, Int.zero_add]
      exact ⟨fun h => absurd h (nz_fzs hzb), fun _ => (fz_self hb hzb hbl mode).symm⟩
    · rw [zero_fzs hza, zero_fzs hzb]
      refine ⟨fun _ => ?_, fun h => absurd rfl h⟩
      simp only [Bool.true_and, if_true]
      split
      · exact (cancel_num mode).2.2
      · exact (zero_not hzb).2.2.1
theorem add_rank {a b : Nat} (mode : Int) (ha : finB a = true) (hb : finB b = true) (hbl : b < 18446744073709551616) : frank (faddF a b mode) = frank (rz (fzs a + fzs b) (-1074) mode) := by
  obtain ⟨h1, h2⟩ := add_fin mode ha hb hbl
  unfold rz
  by_cases h : fzs a + fzs b = 0
  · rw [if_pos h, frank_zero (h1 h)]; decide
  · rw [if_neg h, h2 h]

theorem rank_inf {a : Nat} (ha : a < 18446744073709551616) (hi : infB a = true) : frank (9218868437227405312 + sgz (fneg a)) = frank a := by rw [inf_val ha hi]
theorem rank_le_inf {a : Nat} (hn : nanB a = false) : -9218868437227405312 ≤ frank a ∧ frank a ≤ 9218868437227405312 := by
  have := nanB_not hn
  unfold frank
  split <;> omega
theorem infB_rank {a : Nat} (hi : infB a = true) : frank a = (if fneg a then -9218868437227405312 else 9218868437227405312) := by
  have h : fmag a = 9218868437227405312 := of_decide_eq_true hi
  unfold frank
  rw [h]
  rfl
theorem fin_rank {a : Nat} (hf : finB a = true) : -9218868437227405312 < frank a ∧ frank a < 9218868437227405312 := by
  have h : fmag a < 9218868437227405312 := of_decide_eq_true hf
  unfold frank
  split <;> omega
theorem fin_or {a : Nat} (hn : nanB a = false) : finB a = true ∨ infB a = true := by
  have h1 := nanB_not hn
  unfold finB infB
  rw [decide_eq_true_iff, decide_eq_true_iff]
  omega
theorem fzs_mono {a b : Nat} (ha : nanB a = false) (hb : nanB b = false) (h : frank a ≤ frank b) : fzs a ≤ fzs b := by
  obtain ⟨h1, h2⟩ := fs_rank (T := 1074) ha hb
  rw [fs_fzs, fs_fzs] at h1 h2
  omega

/-- a sum with an infinity -/
theorem add_inf_left {a b : Nat} (mode : Int) (ha : a < 18446744073709551616) (hi : infB a = true) : nanB (faddF a b mode) = true ∨ frank (faddF a b mode) = frank a := by
  unfold faddF
  rw [add_form, hi, (inf_not hi).1]
  simp only [Bool.false_or, Bool.true_and, if_true]
  split
  · left; decide
  · split
    · left; decide
    · right; exact rank_inf ha hi
theorem add_inf_right {a b : Nat} (mode : Int) (hb : infB b = true) (ha : finB a = true) : frank (faddF a b mode) = frank b := by
  obtain ⟨a1, a2⟩ := fin_not ha
  obtain ⟨b1, b2⟩ := inf_not hb
  unfold faddF
  rw [add_form, hb, a1, a2, b1, b2]
  simp

/-- sums keep the order -/
theorem add_mono {f g h : Nat} (mode : Int) (hf : f < 18446744073709551616) (hg : g < 18446744073709551616) (hh : h < 18446744073709551616) (hfn : nanB f = false) (hgn : nanB g = false) (hle : frank f ≤ frank g)
    (h1 : nanB (faddF f h mode) = false) (h2 : nanB (faddF g h mode) = false) : frank (faddF f h mode) ≤ frank (faddF g h mode) := by
  cases hn : nanB h
  · rcases fin_or hfn with f1 | f1
    · rcases fin_or hgn with g1 | g1
      · rcases fin_or hn with k1 | k1
        · rw [add_rank mode f1 k1 hh, add_rank mode g1 k1 hh]
          have := fzs_mono hfn hgn hle
          refine rz_mono (T := 1074) (by omega) (by omega) (by omega) ?_ mode
          unfold vs
          simp
          omega
        · rw [add_inf_right mode k1 f1, add_inf_right mode k1 g1]
          exact Int.le_refl _
      · rcases add_inf_left (b := h) mode hg g1 with e | e
        · rw [e] at h2; cases h2
        · rw [e]
          have e2 := infB_rank g1
          have e3 := fin_rank f1
          have e4 := (rank_le_inf h1).2
          cases hs : fneg g
          · rw [hs] at e2; simp at e2; omega
          · rw [hs] at e2; simp at e2; omega
    · rcases add_inf_left (b := h) mode hf f1 with e | e
      · rw [e] at h1; cases h1
      · rw [e]
        have e2 := infB_rank f1
        have e4 := (rank_le_inf h2).1
        cases hs : fneg f
        · rw [hs] at e2; simp at e2
          rcases fin_or hgn with g1 | g1
          · have := fin_rank g1; omega
          · rcases add_inf_left (b := h) mode hg g1 with e5 | e5
            · rw [e5] at h2; cases h2
            · rw [e5]; exact hle
        · rw [hs] at e2; simp at e2; omega
  · exfalso
    unfold faddF at h1
    rw [add_form, hn] at h1
    simp only [Bool.or_true, if_true] at h1
    revert h1
    decide

theorem fabs_facts {a : Nat} (ha : finB a = true) : fabsF a = fmag a ∧ finB (fabsF a) = true ∧ fabsF a < 18446744073709551616 ∧ fzs (fabsF a) = (fz a : Int) ∧ fz (fabsF a) = fz a := by
  have h1 := (fin_not ha).1
  have h2 := fmag_lt a
  have h3 : fabsF a = fmag a := by unfold fabsF; rw [h1]; rfl
  have h4 : fmag (fmag a) = fmag a := Nat.mod_eq_of_lt h2
  have h5 : fneg (fmag a) = false := decide_eq_false (by omega)
  rw [h3]
  refine ⟨rfl, ?_, by omega, ?_, fz_mag a⟩
  · unfold finB at ha ⊢; rw [h4]; exact ha
  · unfold fzs; rw [h5, fz_mag]; rfl
theorem fneg_fzs {a : Nat} (ha : a < 18446744073709551616) (hf : finB a = true) : fzs (fnegF a) = -fzs a ∧ finB (fnegF a) = true := by
  obtain ⟨n1, n2, n3, n4, n5, -, -, n8⟩ := neg_facts ha (fin_not hf).1
  constructor
  · rw [fzs_sgi, fzs_sgi, n4, n5, sgi_not]
  · unfold finB at hf ⊢; rw [n8]; exact hf

/-- Sterbenz's lemma -/
theorem sterbenz {a b : Nat} (mode : Int) (ha : finB a = true) (hb : finB b = true) (h1 : fz b ≤ 2 * fz a) (h2 : fz a ≤ 2 * fz b) :
    finB (faddF (fabsF a) (fnegF (fabsF b)) mode) = true ∧ fzs (faddF (fabsF a) (fnegF (fabsF b)) mode) = (fz a : Int) - (fz b : Int) := by
  obtain ⟨a1, a2, a3, a4, a5⟩ := fabs_facts ha
  obtain ⟨b1, b2, b3, b4, b5⟩ := fabs_facts hb
  obtain ⟨n1, n2⟩ := fneg_fzs b3 b2
  obtain ⟨k1, k2⟩ := add_fin mode a2 n2 fnegF_lt
  rw [a4, n1, b4] at k1 k2
  have ma : fmag a < 9218868437227405312 := of_decide_eq_true ha
  have mb : fmag b < 9218868437227405312 := of_decide_eq_true hb
  by_cases h : (fz a : Int) + -(fz b : Int) = 0
  · have hz := k1 h
    constructor
    · unfold finB; rw [hz]; decide
    · rw [zero_fzs (decide_eq_true hz)]; omega
  · rw [k2 h]
    obtain ⟨-, -, r3, r4⟩ := rnd_facts ((fz a : Int) + -(fz b : Int)) (-1074) mode
    have key : fla (decide ((fz a : Int) + -(fz b : Int) < 0)) ((fz a : Int) + -(fz b : Int)).natAbs (-1074) false mode < 9218868437227405312 ∧ fz (fla (decide ((fz a : Int) + -(fz b : Int) < 0)) ((fz a : Int) + -(fz b : Int)).natAbs (-1074) false mode) = ((fz a : Int) + -(fz b : Int)).natAbs := by
      rcases Nat.le_total (fz b) (fz a) with h3 | h3
      · obtain ⟨K, j, q1, q2, q3⟩ := sterbenz_mag ma mb h3 h2
        have e : ((fz a : Int) + -(fz b : Int)).natAbs = fz a - fz b := by omega
        rw [e]
        exact fla_room q1 (by omega) q2 q3 _ _
      · obtain ⟨K, j, q1, q2, q3⟩ := sterbenz_mag mb ma h3 h1
        have e : ((fz a : Int) + -(fz b : Int)).natAbs = fz b - fz a := by omega
        rw [e]
        exact fla_room q1 (by omega) q2 q3 _ _
    constructor
    · unfold finB; rw [r4]; exact decide_eq_true key.1
    · unfold fzs
      rw [r3, ← fz_mag (rnd _ _ _), r4, key.2]
      by_cases h4 : (fz a : Int) + -(fz b : Int) < 0
      · rw [decide_eq_true h4, if_pos rfl]; omega
      · rw [decide_eq_false h4, if_neg (by simp)]; omega
end Go.Proofs.YtfgmkeiiidckbaaDoor
