import Derived.Test.YtapcecjbmcoliaaGreatDoorACauU27
import Derived.Test.YtapcecjbmcoliaaGreatDoorACauU32
import Derived.Test.YtapcecjbmcoliaaGreatDoorACauU33
import Derived.Test.YtapcecjbmcoliaaGreatDoorACauU20
namespace Go.Proofs.YtapcecjbmcoliaaGreatDoor

/-- these dyads have the sum N in units of 2^-S -/
inductive IsL (S : Nat) : List Dy → Int → Prop
  | nil : IsL S [] 0
  | cons {d : Dy} {l : List Dy} {N M : Int} (h : Is d S N) (t : IsL S l M) : IsL S (d :: l) (N + M)

theorem IsL.some {S : Nat} {l : List Dy} {N : Int} (h : IsL S l N) : none ∉ l := by
  induction h with
  | nil => simp
  | cons h _ ih =>
    intro hm
    rcases List.mem_cons.1 hm with e | hm
    · obtain ⟨m, x, h1, _⟩ := h
      rw [← e] at h1; cases h1
    · exact ih hm

theorem IsL.scs {S : Nat} {l : List Dy} {N : Int} (h : IsL S l N) (hS : S ≤ 65536) : scs l = N * 2 ^ (65536 - S) := by
  induction h with
  | nil => simp [Go.Proofs.YtapcecjbmcoliaaGreatDoor.scs]
  | cons h _ ih => simp only [Go.Proofs.YtapcecjbmcoliaaGreatDoor.scs, ih, sc_is h hS, Int.add_mul]

theorem dtotal_is {S B : Nat} {l : List Dy} {N : Int} (h : IsL S l N) (hS : S ≤ 65536) (hN : N.natAbs < 2 ^ B) (hB : B ≤ 65536) : Is (dtotal l) S N := by
  unfold dtotal
  rw [if_neg h.some, h.scs hS, dmk_shift, show (-65536 : Int) + ((65536 - S : Nat) : Int) = -(S : Int) by omega]
  exact Is.of_dmk hS hN hB

end Go.Proofs.YtapcecjbmcoliaaGreatDoor

namespace Go.Proofs.YtapcecjbmcoliaaGreatDoor

/-- the sum of floats, in units of 2^-1074 -/
def sumF : List Nat → Int
  | [] => 0
  | f :: l => fzs f + sumF l
/-- the sum of products, in units of 2^-2148 -/
def dotF : List Nat → List Nat → Int
  | f :: l, g :: m => fzs f * fzs g + dotF l m
  | _, _ => 0

theorem sumF_is {l : List Nat} (h : ∀ f ∈ l, finB f = true) : IsL 1074 (l.map fdy) (sumF l) := by
  induction l with
  | nil => exact .nil
  | cons f l ih => exact .cons (fdy_is (h f List.mem_cons_self)) (ih fun g hg => h g (List.mem_cons_of_mem _ hg))
theorem sumF_lt {l : List Nat} (h : ∀ f ∈ l, finB f = true) : (sumF l).natAbs ≤ l.length * 2 ^ (52 + low46) := by
  induction l with
  | nil => simp [sumF]
  | cons f l ih =>
    have h1 := ih fun g hg => h g (List.mem_cons_of_mem _ hg)
    have h2 := fz_bound (h f List.mem_cons_self)
    rw [← fzs_abs] at h2
    have h3 := Int.natAbs_add_le (fzs f) (sumF l)
    simp only [sumF, List.length_cons, Nat.add_mul, Nat.one_mul]
    omega
theorem sumF_dy {l : List Nat} (h : ∀ f ∈ l, finB f = true) (hl : l.length ≤ 1000000) : Is (dtotal (l.map fdy)) 1074 (sumF l) := by
  have h1 := sumF_lt h
  refine dtotal_is (B := 20 + (52 + low46)) (sumF_is h) (by omega) ?_ (by rw [low46_le]; omega)
  have h2 : l.length * 2 ^ (52 + low46) ≤ 1000000 * 2 ^ (52 + low46) := Nat.mul_le_mul_right _ hl
  have h3 : 1000000 * 2 ^ (52 + low46) < 2 ^ 20 * 2 ^ (52 + low46) := Nat.mul_lt_mul_of_pos_right (by omega) (Nat.pow_pos (by omega))
  rw [← Nat.pow_add] at h3
  omega

theorem dotF_is {l m : List Nat} (h : ∀ f ∈ l, finB f = true) (h' : ∀ f ∈ m, finB f = true) : IsL (1074 + 1074) (List.zipWith (fun a b => dmul (fdy a) (fdy b)) l m) (dotF l m) := by
  induction l generalizing m with
  | nil => exact .nil
  | cons f l ih =>
    cases m with
    | nil => exact .nil
    | cons g m => exact .cons (fdy_mul (h f List.mem_cons_self) (h' g List.mem_cons_self)) (ih (fun x hx => h x (List.mem_cons_of_mem _ hx)) fun x hx => h' x (List.mem_cons_of_mem _ hx))
theorem dotF_lt {l m : List Nat} (h : ∀ f ∈ l, finB f = true) (h' : ∀ f ∈ m, finB f = true) : (dotF l m).natAbs ≤ l.length * 2 ^ ((52 + low46) + (52 + low46)) := by
  induction l generalizing m with
  | nil => simp [dotF]
  | cons f l ih =>
    cases m with
    | nil => simp [dotF]
    | cons g m =>
      have h1 := ih (m := m) (fun x hx => h x (List.mem_cons_of_mem _ hx)) fun x hx => h' x (List.mem_cons_of_mem _ hx)
      have h2 := fz_bound (h f List.mem_cons_self)
      have h2' := fz_bound (h' g List.mem_cons_self)
      rw [← fzs_abs] at h2 h2'
      have h4 := abs_mul_lt h2 h2'
      have h3 := Int.natAbs_add_le (fzs f * fzs g) (dotF l m)
      simp only [dotF, List.length_cons, Nat.add_mul, Nat.one_mul]
      omega
theorem dotF_dy {l m : List Nat} (h : ∀ f ∈ l, finB f = true) (h' : ∀ f ∈ m, finB f = true) (hl : l.length ≤ 1000000) : Is (dtotal (List.zipWith (fun a b => dmul (fdy a) (fdy b)) l m)) (1074 + 1074) (dotF l m) := by
  have h1 := dotF_lt h h'
  refine dtotal_is (B := 20 + ((52 + low46) + (52 + low46))) (dotF_is h h') (by omega) ?_ (by rw [low46_le]; omega)
  have h2 : l.length * 2 ^ ((52 + low46) + (52 + low46)) ≤ 1000000 * 2 ^ ((52 + low46) + (52 + low46)) := Nat.mul_le_mul_right _ hl
  have h3 : 1000000 * 2 ^ ((52 + low46) + (52 + low46)) < 2 ^ 20 * 2 ^ ((52 + low46) + (52 + low46)) := Nat.mul_lt_mul_of_pos_right (by omega) (Nat.pow_pos (by omega))
  rw [← Nat.pow_add] at h3
  omega

/-- a difference is zero, added to what was taken it is what it was -/
theorem Is.sub {d d' : Dy} {S : Nat} {N M : Int} (h : Is d S N) (h' : Is d' S M) (hS : S ≤ 65536) {B : Nat} (hb : (N - M).natAbs < 2 ^ B) (hB : B ≤ 65536) : Is (dsub d d') S (N - M) := by
  have := h.add h'.neg hS (B := B) (by rw [← Int.sub_eq_add_neg]; exact hb) hB
  rw [← Int.sub_eq_add_neg] at this
  exact this

theorem fdy_one : fdy 4607182418800017408 = some (1, 0) := by
  have h : fzs 4607182418800017408 = 1 * 2 ^ 1074 := by decide +kernel
  unfold fdy
  rw [if_pos (by decide), h, dmk_shift]
  exact dmk_norm (Or.inr ⟨by decide, by decide, by decide⟩)
end Go.Proofs.YtapcecjbmcoliaaGreatDoor

namespace Go.Proofs.YtapcecjbmcoliaaGreatDoor

theorem prods_is {x y : List Nat} (hl : x.length ≤ 1000000) (hx : ∀ f ∈ x, finB f = true) (hy : ∀ f ∈ y, finB f = true) : dtotal (prods x y) ≠ none := by
  obtain ⟨m, e, h, _⟩ := dotF_dy hx hy hl
  unfold prods
  rw [h]
  simp
/-- an inner product and its error; a residual and its error -/
def dotR (x y : List Nat) : Dy × Int := if x.length ≠ y.length then (some (0, 0), 2) else (chk (dtotal (prods x y)), chkE (dtotal (prods x y)))
end Go.Proofs.YtapcecjbmcoliaaGreatDoor

namespace Go.Proofs.YtapcecjbmcoliaaGreatDoor

/-- the distance of two naturals -/
def dist (a b : Nat) : Nat := (a - b) + (b - a)

theorem vu_74 (N : Nat) : vu N (-1074) 1074 = N := by unfold vu; simp
theorem fu_74 (m : Nat) : fu m 1074 = fz m := by unfold fu; simp

/-- to nearest: either exact, or between two neighbours and not farther than the other one -/
theorem near_cases {N s : Nat} (h0 : N ≠ 0) (neg : Bool) (hs : fla neg N (-1074) false 0 = s) (hf : s < 9218868437227405312) :
    fz s = N ∨ ∃ lo, fz lo < N ∧ N < fz (lo + 1) ∧ lo + 1 ≤ 9218868437227405312 ∧ ((s = lo ∧ 2 * N ≤ fz lo + fz (lo + 1)) ∨ (s = lo + 1 ∧ fz lo + fz (lo + 1) ≤ 2 * N)) := by
  rcases fla_spec h0 (-1074) (T := 1074) (by omega) (by omega) with ⟨l, h1, h2, h3⟩ | ⟨l, b, h⟩
  · left
    rw [vu_74, fu_74] at h3
    rw [← hs, h2]; exact h3
  · right
    have h1 := h.lt
    have h2 := h.above
    have h3 := h.below
    have h4 := h.near
    have h5 := h.val neg 0
    rw [hs] at h5
    rw [vu_74, fu_74] at h2
    rw [vu_74, fu_74, fu_74] at h3 h4
    have hr : fraise neg 0 b = b := by unfold fraise; simp
    rw [hr] at h5
    have hm := fz_lt_succ h1
    have hlt : N < fz (l + 1) := by
      rcases h3 with ⟨h3, h6⟩ | h3
      · rw [h3] at hm h4
        cases b
        · simp at h4; omega
        · simp at h5; omega
      · exact h3
    refine ⟨l, h2, hlt, by omega, ?_⟩
    cases b
    · left
      simp at h4 h5
      exact ⟨h5, by omega⟩
    · right
      simp at h4 h5
      exact ⟨h5, by omega⟩

/-- no float is nearer -/
theorem near_best {N s m : Nat} (h0 : N ≠ 0) (neg : Bool) (hs : fla neg N (-1074) false 0 = s) (hf : s < 9218868437227405312) (hm : m < 9218868437227405312) : dist N (fz s) ≤ dist N (fz m) := by
  unfold dist
  rcases near_cases h0 neg hs hf with h | ⟨lo, h1, h2, h3, h⟩
  · rw [h]; omega
  · have hc : fz m ≤ fz lo ∨ fz (lo + 1) ≤ fz m := by
      by_cases hml : m ≤ lo
      · left; exact fz_mono hml (by omega)
      · right; exact fz_mono (by omega) (by omega)
    rcases h with ⟨rfl, h⟩ | ⟨rfl, h⟩ <;> omega

/-- what is left is a multiple of what the sum is a multiple of -/
theorem near_mult {N s M j : Nat} (h0 : N ≠ 0) (neg : Bool) (hs : fla neg N (-1074) false 0 = s) (hf : s < 9218868437227405312) (hN : N = M * 2 ^ j) : ∃ K, dist N (fz s) = K * 2 ^ j := by
  rcases near_cases h0 neg hs hf with h | ⟨lo, h1, h2, h3, h⟩
  · exact ⟨0, by unfold dist; rw [h]; omega⟩
  · obtain ⟨q, k, hq, hk, hn, hm⟩ : ∃ q k, q ≤ 2045 ∧ k < 9007199254740992 ∧ (q = 0 ∨ 4503599627370496 ≤ k) ∧ lo = q * 4503599627370496 + k := by
      by_cases h1 : lo < 4503599627370496
      · exact ⟨0, lo, by omega, by omega, by omega, by omega⟩
      · exact ⟨lo / 4503599627370496 - 1, lo % 4503599627370496 + 4503599627370496, by omega, by omega, by omega, by omega⟩
    have e1 : fz lo = k * 2 ^ q := by rw [hm, fz_bits (by omega) hn hq]
    have e2 : fz (lo + 1) = (k + 1) * 2 ^ q := by rw [hm, Nat.add_assoc, fz_bits (by omega) (by omega) hq]
    have hjq : j ≤ q := by
      rcases Nat.lt_or_ge q j with hlt | hge
      · exfalso
        obtain ⟨i, rfl⟩ : ∃ i, j = i + q := ⟨j - q, by omega⟩
        rw [Nat.pow_add, ← Nat.mul_assoc] at hN
        rw [e1, hN] at h1
        rw [e2, hN] at h2
        have g1 := Nat.lt_of_mul_lt_mul_right h1
        have g2 := Nat.lt_of_mul_lt_mul_right h2
        omega
      · exact hge
    obtain ⟨i, rfl⟩ : ∃ i, q = i + j := ⟨q - j, by omega⟩
    rw [Nat.pow_add, ← Nat.mul_assoc] at e1 e2
    unfold dist
    rcases h with ⟨rfl, _⟩ | ⟨rfl, _⟩
    · refine ⟨M - k * 2 ^ i, ?_⟩
      rw [Nat.sub_mul, ← hN, ← e1]; omega
    · refine ⟨(k + 1) * 2 ^ i - M, ?_⟩
      rw [Nat.sub_mul, ← hN, ← e2]; omega

theorem fzs_mul (f : Nat) : fzs f = sgi (fneg f) (sig f) * 2 ^ fsh f := by rw [fzs_sgi, fz_parts, sgi_mul]

/-- the lesser exponent's number bounds what is left -/
theorem sum_rest_one {a b s : Nat} {V : Int} (hb : finB b = true) (ha : finB a = true) (hV : V = fzs a + fzs b) (h0 : V ≠ 0) (hj : fsh b ≤ fsh a) (neg : Bool) (hs : fla neg V.natAbs (-1074) false 0 = s) (hf : s < 9218868437227405312) :
    ∃ K j, dist V.natAbs (fz s) = K * 2 ^ j ∧ K < 9007199254740992 ∧ dist V.natAbs (fz s) < fz 9218868437227405312 := by
  obtain ⟨i, hi⟩ : ∃ i, fsh a = i + fsh b := ⟨fsh a - fsh b, by omega⟩
  have hma : fmag a < 9218868437227405312 := of_decide_eq_true ha
  have hmb : fmag b < 9218868437227405312 := of_decide_eq_true hb
  have hm : V = (sgi (fneg a) (sig a) * 2 ^ i + sgi (fneg b) (sig b)) * 2 ^ fsh b := by
    rw [hV, fzs_mul a, fzs_mul b, hi, Int.pow_add, Int.add_mul, Int.mul_assoc]
  have hN : V.natAbs = (sgi (fneg a) (sig a) * 2 ^ i + sgi (fneg b) (sig b)).natAbs * 2 ^ fsh b := by rw [hm, Int.natAbs_mul, Int.natAbs_pow]; rfl
  obtain ⟨K, hK⟩ := near_mult (by omega) neg hs hf hN
  have hbest : dist V.natAbs (fz s) ≤ fz b := by
    have ea : (fzs a).natAbs = fz a := by unfold fzs; split <;> omega
    have eb : (fzs b).natAbs = fz b := by unfold fzs; split <;> omega
    have h1 := near_best (m := fmag a) (by omega) neg hs hf hma
    have h2 := near_best (m := 0) (by omega) neg hs hf (by omega)
    rw [fz_mag] at h1
    rw [fz_zero0] at h2
    by_cases hsame : (0 ≤ V ∧ 0 ≤ fzs a) ∨ (V ≤ 0 ∧ fzs a ≤ 0)
    · refine Nat.le_trans h1 ?_
      unfold dist
      omega
    · refine Nat.le_trans h2 ?_
      unfold dist
      omega
  refine ⟨K, fsh b, hK, ?_, Nat.lt_of_le_of_lt hbest ?_⟩
  · rw [hK, fz_parts] at hbest
    have := Nat.le_of_mul_le_mul_right hbest (Nat.pow_pos (by omega))
    have := sig_lt b
    omega
  · rw [← fz_mag b]
    exact fz_lt hmb (Nat.le_refl _)

/-- the rest of a sum rounded to nearest has room in a float -/
theorem sum_rest {a b s : Nat} {V : Int} (ha : finB a = true) (hb : finB b = true) (hV : V = fzs a + fzs b) (h0 : V ≠ 0) (neg : Bool) (hs : fla neg V.natAbs (-1074) false 0 = s) (hf : s < 9218868437227405312) :
    ∃ K j, dist V.natAbs (fz s) = K * 2 ^ j ∧ K < 9007199254740992 ∧ dist V.natAbs (fz s) < fz 9218868437227405312 := by
  rcases Nat.le_total (fsh b) (fsh a) with h | h
  · exact sum_rest_one hb ha hV h0 h neg hs hf
  · exact sum_rest_one ha hb (by rw [hV, Int.add_comm]) h0 h neg hs hf
end Go.Proofs.YtapcecjbmcoliaaGreatDoor
