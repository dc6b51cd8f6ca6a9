import Derived.Test.YtekocoklfnojmaaGreatDoorIHoldsU22
import Derived.Test.YtekocoklfnojmaaGreatDoorIHoldsU19
import Derived.Test.YtekocoklfnojmaaGreatDoorIHoldsU26
import Derived.Deep.CutBlock
import Derived.Test.YtekocoklfnojmaaGreatDoorIHoldsU33
import Derived.Test.YtekocoklfnojmaaGreatDoorIHoldsU41
namespace Go.Proofs.YtekocoklfnojmaaGreatDoor

/-- a tail is a last one -/
theorem fla_sticky (neg : Bool) {Q : Nat} (e : Int) (mode : Int) (hQ : 2 ^ 53 ≤ Q) : fla neg Q e true mode = fla neg (2 * Q + 1) (e - 1) false mode := by
  have h := fla_tail neg (N := 2 * Q + 1) (e - 1) false mode 1 (by rw [Nat.pow_one]; omega)
  rw [Nat.pow_one, show (2 * Q + 1) / 2 = Q by omega, show (2 * Q + 1) % 2 = 1 by omega, show e - 1 + ((1 : Nat) : Int) = e by omega] at h
  exact h

end Go.Proofs.YtekocoklfnojmaaGreatDoor

namespace Go.Proofs.YtekocoklfnojmaaGreatDoor

theorem abs_mul_lt {x y : Int} {B C : Nat} (hx : x.natAbs < 2 ^ B) (hy : y.natAbs < 2 ^ C) : (x * y).natAbs < 2 ^ (B + C) := by
  rw [Int.natAbs_mul, Nat.pow_add]
  by_cases h0 : y.natAbs = 0
  · rw [h0, Nat.mul_zero]; exact Nat.mul_pos (Nat.pow_pos (by omega)) (Nat.pow_pos (by omega))
  · exact Nat.mul_lt_mul_of_lt_of_le hx (Nat.le_of_lt hy) (Nat.pow_pos (by omega))

/-- how many bits the integer of a slim dyad has at most -/
def SB : Nat := 640 + 4000
section
variable {a b c : Dy}
end

end Go.Proofs.YtekocoklfnojmaaGreatDoor

namespace Go.Proofs.YtekocoklfnojmaaGreatDoor

/-- what the four roundings of a dyad with more bits are -/
structure NearBig (d lo hi near inn : Dy) (c : Int) : Prop where
  lo_ne : lo ≠ none
  hi_ne : hi ≠ none
  near_ne : near ≠ none
  lohi : lo ≠ hi
  a : sgn3 (sc lo) (sc d) = -1
  b : sgn3 (sc d) (sc hi) = -1
  below : dsub d lo ≠ none
  above : dsub hi d ≠ none
  cmp : sgn3 (sc (dsub d lo)) (sc (dsub hi d)) = c
  choice : c = -1 ∧ near = lo ∨ c = 1 ∧ near = hi ∨ c = 0 ∧ (near = lo ∨ near = hi)
  inward : dm d < 0 ∧ inn = hi ∨ 0 ≤ dm d ∧ inn = lo

end Go.Proofs.YtekocoklfnojmaaGreatDoor

namespace Go.Proofs.YtekocoklfnojmaaGreatDoor

/-- what the statement compares -/
structure QuoIs (a b lo hi : Dy) (p x y : Int) : Prop where
  lon : lo ≠ none
  hin : hi ≠ none
  lob : (blen (dm lo).natAbs : Int) ≤ p
  hib : (blen (dm hi).natAbs : Int) ≤ p
  lom : dmul lo b ≠ none
  him : dmul hi b ≠ none
  cx : sgn3 (sc (dmul lo b)) (sc a) = x
  cy : sgn3 (sc a) (sc (dmul hi b)) = y
  xle : ¬ 0 < x
  yle : ¬ 0 < y
  same : lo = hi ↔ x = 0
  both : x = 0 ↔ y = 0

end Go.Proofs.YtekocoklfnojmaaGreatDoor

namespace Go.Proofs.YtekocoklfnojmaaGreatDoor

/-- what the statement compares -/
structure RootIs (a lo hi : Dy) (x y : Int) : Prop where
  lon : lo ≠ none
  hin : hi ≠ none
  lob : blen (dm lo).natAbs ≤ 80
  hib : blen (dm hi).natAbs ≤ 80
  lom : dmul lo lo ≠ none
  him : dmul hi hi ≠ none
  cx : sgn3 (sc (dmul lo lo)) (sc a) = x
  cy : sgn3 (sc a) (sc (dmul hi hi)) = y
  xle : ¬ 0 < x
  yle : ¬ 0 < y
  same : lo = hi ↔ x = 0

end Go.Proofs.YtekocoklfnojmaaGreatDoor

namespace Go.Proofs.YtekocoklfnojmaaGreatDoor

theorem quo_more {A C k j : Nat} (hC : C ≠ 0) :
    A * 2 ^ (k + j) / C / 2 ^ j = A * 2 ^ k / C ∧ (decide (A * 2 ^ (k + j) % C ≠ 0) || decide (A * 2 ^ (k + j) / C % 2 ^ j ≠ 0)) = decide (A * 2 ^ k % C ≠ 0) := by
  have hJ : 0 < 2 ^ j := Nat.pow_pos (by omega)
  rw [Nat.pow_add, ← Nat.mul_assoc]
  generalize A * 2 ^ k = X
  generalize 2 ^ j = J at *
  have h1 : X * J / C / J = X / C := by rw [Nat.div_div_eq_div_mul, Nat.mul_div_mul_right _ _ hJ]
  refine ⟨h1, ?_⟩
  have d1 := Nat.div_add_mod (X * J) C
  have d2 := Nat.div_add_mod (X * J / C) J
  have d3 := Nat.div_add_mod X C
  rw [h1] at d2
  generalize X * J / C % J = s at *
  generalize X * J % C = r' at *
  generalize X % C = r at *
  generalize X / C = Q at *
  rw [← d2, ← d3] at d1
  have e : C * s + r' = r * J := by
    have e1 : C * (J * Q + s) + r' = C * (J * Q) + (C * s + r') := by rw [Nat.mul_add]; omega
    have e2 : (C * Q + r) * J = C * (J * Q) + r * J := by rw [Nat.add_mul, Nat.mul_assoc, Nat.mul_comm Q J]
    omega
  rw [← Bool.decide_or]
  apply decide_eq_decide.2
  constructor
  · intro h h2
    subst h2
    rw [Nat.zero_mul] at e
    rcases h with h | h
    · omega
    · have := Nat.mul_pos (Nat.pos_of_ne_zero hC) (Nat.pos_of_ne_zero h); omega
  · intro h
    by_cases h2 : r' = 0
    · right
      intro h3
      rw [h2, h3, Nat.mul_zero] at e
      have := Nat.mul_pos (Nat.pos_of_ne_zero h) hJ
      omega
    · exact Or.inl h2
theorem fla_quo {neg : Bool} {A C k j : Nat} {E mode : Int} (hC : C ≠ 0) (h : 2 ^ 53 ≤ A * 2 ^ k / C) :
    fla neg (A * 2 ^ (k + j) / C) E (decide (A * 2 ^ (k + j) % C ≠ 0)) mode = fla neg (A * 2 ^ k / C) (E + j) (decide (A * 2 ^ k % C ≠ 0)) mode := by
  obtain ⟨h1, h2⟩ := quo_more (A := A) (k := k) (j := j) hC
  have h3 := fla_tail neg (N := A * 2 ^ (k + j) / C) E (decide (A * 2 ^ (k + j) % C ≠ 0)) mode j (by rw [h1]; exact h)
  rw [h1, h2] at h3
  exact h3.symm
/-- of two lengths that suffice both give the same -/
theorem fla_quo_any {neg : Bool} {A C k k' : Nat} {E mode : Int} (hC : C ≠ 0) (h : 2 ^ 53 ≤ A * 2 ^ k / C) (h' : 2 ^ 53 ≤ A * 2 ^ k' / C) :
    fla neg (A * 2 ^ k / C) (E - k) (decide (A * 2 ^ k % C ≠ 0)) mode = fla neg (A * 2 ^ k' / C) (E - k') (decide (A * 2 ^ k' % C ≠ 0)) mode := by
  rcases Nat.le_total k k' with h1 | h1
  · obtain ⟨j, rfl⟩ : ∃ j, k' = k + j := ⟨k' - k, by omega⟩
    rw [fla_quo (j := j) hC h]
    congr 1
    omega
  · obtain ⟨j, rfl⟩ : ∃ j, k = k' + j := ⟨k - k', by omega⟩
    rw [fla_quo (j := j) hC h']
    congr 1
    omega
/-- powers of two in both parts fall out -/
theorem quo_twos {A C i l k : Nat} (h : l ≤ k + i) : A * 2 ^ i * 2 ^ k / (C * 2 ^ l) = A * 2 ^ (k + i - l) / C ∧ (decide (A * 2 ^ i * 2 ^ k % (C * 2 ^ l) ≠ 0)) = decide (A * 2 ^ (k + i - l) % C ≠ 0) := by
  have hL : 0 < 2 ^ l := Nat.pow_pos (by omega)
  have e : A * 2 ^ i * 2 ^ k = A * 2 ^ (k + i - l) * 2 ^ l := by rw [Nat.mul_assoc, Nat.mul_assoc, ← Nat.pow_add, ← Nat.pow_add]; congr 2; omega
  rw [e, Nat.mul_div_mul_right _ _ hL, Nat.mul_mod_mul_right]
  refine ⟨rfl, ?_⟩
  apply decide_eq_decide.2
  constructor
  · intro h1 h2; exact h1 (by rw [h2, Nat.zero_mul])
  · intro h1 h2
    rcases Nat.mul_eq_zero.1 h2 with h3 | h3
    · exact h1 h3
    · omega

theorem quoX_ge {N : Nat} (h : N ≠ 0) (hN : N < 2 ^ 127) : 2 ^ 127 ≤ quoX N := by
  have l0 := Nat.log2_self_le h
  have l1 : Nat.log2 N < 127 := (Nat.log2_lt h).2 hN
  unfold quoX
  have e : (2 : Nat) ^ 127 = 2 ^ Nat.log2 N * 2 ^ (127 - Nat.log2 N) := by rw [← Nat.pow_add]; congr 1; omega
  rw [e]
  exact Nat.mul_le_mul_right _ l0
theorem quoY_lt {D : Nat} (h : D ≠ 0) (hD : D < 2 ^ 63) : quoY D < 2 ^ 64 := by
  have l1 := @Nat.lt_log2_self D
  have l2 : Nat.log2 D < 63 := (Nat.log2_lt h).2 hD
  unfold quoY
  have e : (2 : Nat) ^ 64 = 2 ^ (Nat.log2 D + 1) * 2 ^ (63 - Nat.log2 D) := by rw [← Nat.pow_add]; congr 1; omega
  rw [e]
  exact Nat.mul_lt_mul_of_pos_right l1 (Nat.pow_pos (by omega))
/-- the program's quotient of two floats is the reference's longer one -/
theorem div_long {neg : Bool} {mode : Int} {N D A C i l k : Nat} {ex ey : Int} (hN : N = A * 2 ^ i) (hD : D = C * 2 ^ l) (hA : A ≠ 0) (hC : C ≠ 0) (hN1 : N < 2 ^ 53) (hD1 : D < 2 ^ 53) (hk : 2 ^ 53 ≤ A * 2 ^ k / C) :
    fla neg (quoX N / quoY D) (quoE N D ex ey) (decide (quoX N % quoY D ≠ 0)) mode = fla neg (A * 2 ^ k / C) (ex + i - (ey + l) - k) (decide (A * 2 ^ k % C ≠ 0)) mode := by
  have hp : ∀ n : Nat, 0 < 2 ^ n := fun n => Nat.pow_pos (by omega)
  have hN0 : N ≠ 0 := by rw [hN]; have := Nat.mul_pos (Nat.pos_of_ne_zero hA) (hp i); omega
  have hD0 : D ≠ 0 := by rw [hD]; have := Nat.mul_pos (Nat.pos_of_ne_zero hC) (hp l); omega
  have p53 : (2 : Nat) ^ 53 < 2 ^ 63 := Nat.pow_lt_pow_right (by omega) (by omega)
  have p127 : (2 : Nat) ^ 53 < 2 ^ 127 := Nat.pow_lt_pow_right (by omega) (by omega)
  have hx := quoX_ge hN0 (Nat.lt_trans hN1 p127)
  have hy := quoY_lt hD0 (Nat.lt_trans hD1 p53)
  have hy0 : 0 < quoY D := by unfold quoY; exact Nat.mul_pos (Nat.pos_of_ne_zero hD0) (hp _)
  have lN : Nat.log2 N < 53 := (Nat.log2_lt hN0).2 hN1
  have lD : Nat.log2 D < 53 := (Nat.log2_lt hD0).2 hD1
  have hl : l ≤ 53 := by
    rcases Nat.lt_or_ge 53 l with h | h
    · have h1 : 2 ^ 53 ≤ 2 ^ l := Nat.pow_le_pow_right (by omega) (by omega)
      have h2 : 2 ^ l ≤ C * 2 ^ l := Nat.le_mul_of_pos_left _ (Nat.pos_of_ne_zero hC)
      omega
    · exact h
  have hge : 2 ^ 53 ≤ quoX N / quoY D := by
    rw [Nat.le_div_iff_mul_le hy0]
    have h1 : 2 ^ 53 * quoY D ≤ 2 ^ 53 * 2 ^ 64 := Nat.mul_le_mul_left _ (Nat.le_of_lt hy)
    have h2 : (2 : Nat) ^ 53 * 2 ^ 64 ≤ 2 ^ 127 := by rw [← Nat.pow_add]; exact Nat.pow_le_pow_right (by omega) (by omega)
    omega
  have hly : l + (63 - Nat.log2 D) ≤ 64 := by
    have h1 : 2 ^ l ≤ D := by rw [hD]; exact Nat.le_mul_of_pos_left _ (Nat.pos_of_ne_zero hC)
    have h2 : l ≤ Nat.log2 D := (Nat.le_log2 hD0).2 h1
    omega
  have hE : quoE N D ex ey = ex + i - (ey + l) - ((127 - Nat.log2 N + i - (l + (63 - Nat.log2 D)) : Nat) : Int) := by
    unfold quoE; omega
  have hq : quoX N = A * 2 ^ i * 2 ^ (127 - Nat.log2 N) := by unfold quoX; rw [hN]
  have hd : quoY D = C * 2 ^ (l + (63 - Nat.log2 D)) := by unfold quoY; rw [Nat.pow_add, ← Nat.mul_assoc, ← hD]
  obtain ⟨q1, q2⟩ := quo_twos (A := A) (C := C) (i := i) (l := l + (63 - Nat.log2 D)) (k := 127 - Nat.log2 N) (by omega)
  rw [← hq, ← hd] at q1 q2
  rw [hE, q2, q1]
  rw [q1] at hge
  exact fla_quo_any hC hge hk
end Go.Proofs.YtekocoklfnojmaaGreatDoor

namespace Go.Proofs.YtekocoklfnojmaaGreatDoor

def kq : Nat := 2200
/-- a quotient with a bit for what is left -/
def quoS (U V : Nat) : Nat := 2 * (U * 2 ^ kq / V) + if U * 2 ^ kq % V ≠ 0 then 1 else 0
theorem quoS_mono {U U' V : Nat} (h : U ≤ U') : quoS U V ≤ quoS U' V := by
  unfold quoS
  have h1 : U * 2 ^ kq ≤ U' * 2 ^ kq := Nat.mul_le_mul_right _ h
  generalize U * 2 ^ kq = X at *
  generalize U' * 2 ^ kq = X' at *
  have h2 : X / V ≤ X' / V := Nat.div_le_div_right h1
  have d1 := Nat.div_add_mod X V
  have d2 := Nat.div_add_mod X' V
  rcases Nat.lt_or_ge (X / V) (X' / V) with h3 | h3
  · split <;> split <;> omega
  · have h4 : X / V = X' / V := by omega
    rw [h4] at d1
    rw [h4]
    generalize V * (X' / V) = P at *
    split <;> split <;> omega
theorem quoS_anti {U V V' : Nat} (hV : 0 < V) (h : V ≤ V') : quoS U V' ≤ quoS U V := by
  unfold quoS
  generalize U * 2 ^ kq = X at *
  have h2 : X / V' ≤ X / V := Nat.div_le_div_left h hV
  have d1 := Nat.div_add_mod X V
  have d2 := Nat.div_add_mod X V'
  rcases Nat.lt_or_ge (X / V') (X / V) with h3 | h3
  · split <;> split <;> omega
  · have h4 : X / V = X / V' := by omega
    rw [h4] at d1
    rw [h4]
    have h5 := Nat.mul_le_mul_right (X / V') h
    generalize V * (X / V') = P at *
    generalize V' * (X / V') = P' at *
    split <;> split <;> omega
theorem quoS_zero (V : Nat) : quoS 0 V = 0 := by unfold quoS; simp
theorem fla_bit {q : Nat} (s : Bool) (e : Int) (t : Bool) (mode : Int) (h : 2 ^ 53 ≤ q) : fla s q e t mode = fla s (2 * q + if t then 1 else 0) (e - 1) false mode := by
  cases t with
  | true => exact fla_sticky s e mode h
  | false =>
    have h0 : q ≠ 0 := by have : 0 < 2 ^ 53 := Nat.pow_pos (by omega); omega
    exact Num.fla ⟨1, 0, by simp only [Bool.false_eq_true, if_false]; omega, by omega⟩ h0 s mode
theorem sig_no {f : Nat} (h : zeroB f = false) : sig f ≠ 0 := fun h1 => of_decide_eq_false h ((sig_zero f).1 h1)
theorem fsh_le {f : Nat} (h : finB f = true) : fsh f ≤ 2046 := by
  have h1 : fmag f < 9218868437227405312 := of_decide_eq_true h
  unfold fsh ffld; omega
/-- a quotient of finite floats -/
theorem div_fin_rank {u t : Nat} (mode : Int) (fu : finB u = true) (ft : finB t = true) (zt : zeroB t = false) :
    nanB (fdivF u t mode) = false ∧ frank (fdivF u t mode) = frank (rz (sgi (fneg u != fneg t) (quoS (fz u) (fz t))) (-2201) mode) := by
  obtain ⟨u1, u2⟩ := fin_not fu
  obtain ⟨t1, t2⟩ := fin_not ft
  unfold fdivF
  rw [u1, u2, t1, t2, zt]
  simp only [Bool.or_false, Bool.and_false, Bool.false_eq_true, if_false]
  generalize (fneg u != fneg t) = s
  cases zu : zeroB u with
  | true =>
    rw [(zero_not zu).2.2.2, quoS_zero, sgi_zero]
    simp only [if_true]
    obtain ⟨h1, h2, h3⟩ := fin_sgz s
    exact ⟨(fin_not h1).1, by rw [frank_zero h3]; exact (frank_zero (by unfold rz; rw [if_pos rfl]; decide)).symm⟩
  | false =>
    simp only [Bool.false_eq_true, if_false]
    have su := sig_no zu
    have st := sig_no zt
    have hu := fsh_le fu
    have ht := fsh_le ft
    obtain ⟨k, hk⟩ : ∃ k, kq + fsh u - fsh t = k := ⟨_, rfl⟩
    have hk1 : 154 ≤ k := by unfold kq at hk; omega
    have hbig : 2 ^ 53 ≤ sig u * 2 ^ k / sig t := by
      rw [Nat.le_div_iff_mul_le (Nat.pos_of_ne_zero st)]
      have h1 : 2 ^ 53 * sig t ≤ 2 ^ 53 * 2 ^ 53 := Nat.mul_le_mul_left _ (Nat.le_of_lt (sig_lt t))
      have h2 : (2 : Nat) ^ 53 * 2 ^ 53 ≤ 2 ^ k := by rw [← Nat.pow_add]; exact Nat.pow_le_pow_right (by omega) (by omega)
      exact Nat.le_trans h1 (Nat.le_trans h2 (Nat.le_mul_of_pos_left _ (Nat.pos_of_ne_zero su)))
    have hl := div_long (neg := s) (mode := mode) (N := sig u) (D := sig t) (A := sig u) (C := sig t) (i := 0) (l := 0) (k := k) (ex := -1074 + (fsh u : Int)) (ey := -1074 + (fsh t : Int)) (by simp) (by simp) su st (sig_lt u) (sig_lt t) hbig
    have hE : -1074 + (fsh u : Int) + ((0 : Nat) : Int) - (-1074 + (fsh t : Int) + ((0 : Nat) : Int)) - (k : Int) = -2200 := by unfold kq at hk; omega
    rw [hE] at hl
    rw [hl]
    obtain ⟨q1, q2⟩ := quo_twos (A := sig u) (C := sig t) (i := fsh u) (l := fsh t) (k := kq) (by unfold kq; omega)
    rw [hk] at q1 q2
    have hq : quoS (fz u) (fz t) = 2 * (sig u * 2 ^ k / sig t) + if decide (sig u * 2 ^ k % sig t ≠ 0) then 1 else 0 := by
      unfold quoS
      rw [fz_parts, fz_parts, q1]
      refine congrArg (fun x => 2 * (sig u * 2 ^ k / sig t) + x) ?_
      by_cases h : sig u * 2 ^ k % sig t ≠ 0
      · have h2 : sig u * 2 ^ fsh u * 2 ^ kq % (sig t * 2 ^ fsh t) ≠ 0 := of_decide_eq_true (by rw [q2]; exact decide_eq_true h)
        rw [if_pos h2, decide_eq_true h]; rfl
      · have h2 : ¬ sig u * 2 ^ fsh u * 2 ^ kq % (sig t * 2 ^ fsh t) ≠ 0 := of_decide_eq_false (by rw [q2]; exact decide_eq_false h)
        rw [if_neg h2, decide_eq_false h]; rfl
    rw [fla_bit s _ _ mode hbig, ← hq]
    have hS : quoS (fz u) (fz t) ≠ 0 := by
      rw [hq]
      have h9 : 0 < sig u * 2 ^ k / sig t := Nat.lt_of_lt_of_le (Nat.pow_pos (by decide)) hbig
      exact Nat.ne_of_gt (Nat.lt_of_lt_of_le (Nat.mul_pos (by decide) h9) (Nat.le_add_right _ _))
    generalize quoS (fz u) (fz t) = S at *
    have hr : sgz s + fla s S (-2200 - 1) false mode = rnd (sgi s S) (-2201) mode := (rnd_sgi s hS _ mode).symm
    rw [hr]
    have hne : sgi s S ≠ 0 := by unfold sgi; split <;> omega
    refine ⟨(rnd_facts _ _ _).1, ?_⟩
    unfold rz
    rw [if_neg hne]
theorem fz_of {f : Nat} (h : 0 ≤ frank f) : (fz f : Int) = fzs f := by
  cases hz : zeroB f with
  | true => rw [zero_fzs hz, (zero_not hz).2.2.2]; rfl
  | false =>
    have : fneg f = false := by
      cases h2 : fneg f with
      | false => rfl
      | true => have := (sign_rank hz).1 h2; omega
    unfold fzs; rw [this]; rfl
theorem pos_parts {t : Nat} (h : 0 < frank t) : zeroB t = false ∧ fneg t = false ∧ (finB t = true → 0 < fz t) := by
  have hz : zeroB t = false := by
    cases h2 : zeroB t with
    | false => rfl
    | true => have := zero_rank.2 h2; omega
  refine ⟨hz, ?_, fun _ => ?_⟩
  · cases h2 : fneg t with
    | false => rfl
    | true => have := (sign_rank hz).1 h2; omega
  · have h0 : fmag t ≠ 0 := of_decide_eq_false hz
    exact Nat.pos_of_ne_zero fun h => h0 ((fz_zero t).1 h)
theorem div_by_inf {u t : Nat} (mode : Int) (hu : nanB u = false) (it : infB t = true) : rk (fdivF u t mode) = 0 := by
  obtain ⟨n1, n2⟩ := inf_not it
  unfold fdivF
  rw [hu, n1, n2, it]
  cases iu : infB u with
  | true => simp; exact rk_nan (by decide)
  | false =>
    simp
    obtain ⟨h1, h2, h3⟩ := fin_sgz (fneg u != fneg t)
    rw [rk_num (fin_not h1).1, frank_zero h3]
theorem div_of_inf {u t : Nat} (mode : Int) (iu : infB u = true) (ft : finB t = true) (zt : zeroB t = false) (hp : fneg t = false) : rk (fdivF u t mode) = if fneg u then -9218868437227405312 else 9218868437227405312 := by
  obtain ⟨n1, n2⟩ := inf_not iu
  obtain ⟨t1, t2⟩ := fin_not ft
  have hv : fdivF u t mode = 9218868437227405312 + sgz (fneg u) := by
    unfold fdivF
    rw [n1, n2, t1, t2, zt, iu, hp]
    simp
  have hn : nanB (9218868437227405312 + sgz (fneg u)) = false := by cases fneg u <;> decide
  rw [hv, rk_num hn, Nat.add_comm, rank_sgz _ (Nat.le_refl _)]
  rfl
theorem sgi_mono {u u' V : Nat} (hu : nanB u = false) (hu' : nanB u' = false) (h : frank u ≤ frank u') : sgi (fneg u) (quoS (fz u) V) ≤ sgi (fneg u') (quoS (fz u') V) := by
  have h1 := (fzs_rank hu hu').1 h
  have a1 := fzs_abs u
  have a2 := fzs_abs u'
  unfold fzs at h1
  unfold sgi
  cases hs : fneg u with
  | true =>
    cases hs' : fneg u' with
    | true =>
      rw [hs, hs'] at h1
      simp at h1 ⊢
      exact quoS_mono (by omega)
    | false => first | (simp; done) | (simp; omega)
  | false =>
    cases hs' : fneg u' with
    | true =>
      rw [hs, hs'] at h1
      simp at h1
      have e1 : fz u = 0 := by omega
      have e2 : fz u' = 0 := by omega
      rw [e1, e2, quoS_zero]; simp
    | false =>
      rw [hs, hs'] at h1
      simp at h1 ⊢
      exact quoS_mono (by omega)
theorem rz_sign (S e mode : Int) : (0 ≤ S → 0 ≤ frank (rz S e mode)) ∧ (S ≤ 0 → frank (rz S e mode) ≤ 0) := by
  obtain ⟨p1, p2, p3⟩ := rank_sign S e mode
  rcases Int.lt_trichotomy S 0 with h | h | h
  · rw [p1 h]; omega
  · rw [p3 h]; omega
  · rw [p2 h]; omega
/-- by a positive divisor: greater dividends give greater quotients -/
theorem div_mono_left {u u' t : Nat} (mode : Int) (hu : nanB u = false) (hu' : nanB u' = false) (ht : nanB t = false) (hp : 0 < frank t) (h : frank u ≤ frank u') : rk (fdivF u t mode) ≤ rk (fdivF u' t mode) := by
  obtain ⟨zt, nt, -⟩ := pos_parts hp
  rcases fin_or ht with ft | it
  · rcases fin_or hu with fu | iu
    · rcases fin_or hu' with fu' | iu'
      · obtain ⟨a1, a2⟩ := div_fin_rank mode fu ft zt
        obtain ⟨b1, b2⟩ := div_fin_rank mode fu' ft zt
        rw [rk_num a1, rk_num b1, a2, b2, nt, Bool.bne_false, Bool.bne_false]
        exact rz_le (sgi_mono hu hu' h) mode
      · rw [div_of_inf mode iu' ft zt nt]
        rcases inf_ends iu' with ⟨h1, h2⟩ | ⟨h1, h2⟩
        · have := (fin_rank_lt fu).1; omega
        · rw [h1]; exact (rk_le _).2
    · rw [div_of_inf mode iu ft zt nt]
      rcases inf_ends iu with ⟨h1, h2⟩ | ⟨h1, h2⟩
      · rw [h1]; exact (rk_le _).1
      · rcases fin_or hu' with fu' | iu'
        · have := (fin_rank_lt fu').2; omega
        · rw [div_of_inf mode iu' ft zt nt]
          rcases inf_ends iu' with ⟨h4, h5⟩ | ⟨h4, h5⟩
          · omega
          · rw [h1, h4]; exact Int.le_refl _
  · rw [div_by_inf mode hu it, div_by_inf mode hu' it]; exact Int.le_refl _
/-- greater positive divisors bring the quotient nearer to zero -/
theorem div_anti_right {u t t' : Nat} (mode : Int) (hu : nanB u = false) (ht : nanB t = false) (ht' : nanB t' = false) (hp : 0 < frank t) (h : frank t ≤ frank t') :
    (0 ≤ frank u → rk (fdivF u t' mode) ≤ rk (fdivF u t mode)) ∧ (frank u ≤ 0 → rk (fdivF u t mode) ≤ rk (fdivF u t' mode)) := by
  obtain ⟨zt, nt, pt⟩ := pos_parts hp
  obtain ⟨zt', nt', pt'⟩ := pos_parts (t := t') (by omega)
  rcases fin_or ht with ft | it
  · rcases fin_or hu with fu | iu
    · obtain ⟨a1, a2⟩ := div_fin_rank mode fu ft zt
      rw [rk_num a1, a2, nt, Bool.bne_false]
      have hsg : (0 ≤ frank u → 0 ≤ sgi (fneg u) (quoS (fz u) (fz t))) ∧ (frank u ≤ 0 → sgi (fneg u) (quoS (fz u) (fz t)) ≤ 0) := by
        cases zu : zeroB u with
        | true => rw [(zero_not zu).2.2.2, quoS_zero, sgi_zero]; omega
        | false =>
          obtain ⟨s1, s2⟩ := sign_rank zu
          unfold sgi
          cases hs : fneg u with
          | true => have := s1 hs; simp; omega
          | false => have := s2 hs; simp; omega
      rcases fin_or ht' with ft' | it'
      · obtain ⟨b1, b2⟩ := div_fin_rank mode fu ft' zt'
        rw [rk_num b1, b2, nt', Bool.bne_false]
        have hz : fz t ≤ fz t' := by
          have := (fzs_rank ht ht').1 h
          rw [← fz_of (f := t) (by omega), ← fz_of (f := t') (by omega)] at this
          omega
        have hq := quoS_anti (U := fz u) (pt ft) hz
        have hz2 : zeroB u = true → fz u = 0 := fun z => (zero_not z).2.2.2
        constructor
        · intro h0
          refine rz_le ?_ mode
          cases zu : zeroB u with
          | true => rw [hz2 zu, quoS_zero, quoS_zero]; exact Int.le_refl _
          | false =>
            have hs : fneg u = false := by
              cases h2 : fneg u with
              | false => rfl
              | true => have := (sign_rank zu).1 h2; omega
            rw [hs]
            unfold sgi
            simp
            omega
        · intro h0
          refine rz_le ?_ mode
          cases zu : zeroB u with
          | true => rw [hz2 zu, quoS_zero, quoS_zero]; exact Int.le_refl _
          | false =>
            have hs : fneg u = true := by
              cases h2 : fneg u with
              | true => rfl
              | false => have := (sign_rank zu).2 h2; omega
            rw [hs]
            unfold sgi
            simp
            omega
      · rw [div_by_inf mode hu it']
        exact ⟨fun h0 => (rz_sign _ _ _).1 (hsg.1 h0), fun h0 => (rz_sign _ _ _).2 (hsg.2 h0)⟩
    · rw [div_of_inf mode iu ft zt nt]
      rcases fin_or ht' with ft' | it'
      · rw [div_of_inf mode iu ft' zt' nt']
        exact ⟨fun _ => Int.le_refl _, fun _ => Int.le_refl _⟩
      · rw [div_by_inf mode hu it']
        rcases inf_ends iu with ⟨h1, h2⟩ | ⟨h1, h2⟩
        · rw [h1, h2]; simp
        · rw [h1, h2]; simp
  · rw [div_by_inf mode hu it]
    have it' : infB t' = true := by
      rcases fin_or ht' with ft' | it'
      · have h1 := (fin_rank_lt ft').2
        rcases inf_ends it with ⟨_, h2⟩ | ⟨_, h2⟩ <;> omega
      · exact it'
    rw [div_by_inf mode hu it']
    exact ⟨fun _ => Int.le_refl _, fun _ => Int.le_refl _⟩
def PosD (x : Nat) : Prop := x < 18446744073709551616 ∧ nanB x = false ∧ 0 < frank x
def NegD (x : Nat) : Prop := x < 18446744073709551616 ∧ nanB x = false ∧ frank x < 0
theorem div_monoP : Mono fdivF Nm PosD where
  left := fun c t d u mode hc ht hd hu h1 h2 => by
    have a := div_mono_left mode hc.2 ht.2 hu.2.1 hu.2.2 h1
    have b := div_mono_left mode ht.2 hd.2 hu.2.1 hu.2.2 h2
    omega
  right := fun u c t d mode hu hc ht hd h1 h2 => by
    obtain ⟨a1, a2⟩ := div_anti_right (u := u) mode hu.2 hc.2.1 ht.2.1 hc.2.2 h1
    obtain ⟨b1, b2⟩ := div_anti_right (u := u) mode hu.2 ht.2.1 hd.2.1 ht.2.2 h2
    rcases Int.le_total 0 (frank u) with h | h
    · have := a1 h; have := b1 h; omega
    · have := a2 h; have := b2 h; omega
  dirs := fun t u ht hu ft fu => by
    obtain ⟨zt, -, -⟩ := pos_parts hu.2.2
    obtain ⟨a1, a2⟩ := div_fin_rank 1 ft fu zt
    obtain ⟨b1, b2⟩ := div_fin_rank 2 ft fu zt
    rw [rk_num a1, rk_num b1, a2, b2]
    exact rz_dirs _ _
theorem div_turn {u t : Nat} (mode : Int) (ht : NegD t) : PosD (fnegF t) ∧ rk (fdivF u t mode) = -rk (fdivF u (fnegF t) (opp mode)) ∧ frank (fnegF t) = -frank t ∧ (finB t = true → finB (fnegF t) = true) := by
  obtain ⟨h1, h2, -⟩ := neg_rank ht.1 ht.2.1
  refine ⟨⟨fnegF_lt, h1, by have := ht.2.2; omega⟩, ?_, h2, fun hf => ?_⟩
  · rw [fdiv_mirror ht.1, rk_neg (fdiv_lt _)]; omega
  · have h8 := (neg_facts ht.1 ht.2.1).2.2.2.2.2.2.2
    unfold finB at hf ⊢
    rw [h8]; exact hf
theorem div_monoN : Mono fdivF Nm NegD where
  left := fun c t d u mode hc ht hd hu h1 h2 => by
    obtain ⟨p, q, -, -⟩ := div_turn (u := c) mode hu
    obtain ⟨-, q2, -, -⟩ := div_turn (u := t) mode hu
    obtain ⟨-, q3, -, -⟩ := div_turn (u := d) mode hu
    have := div_monoP.left c t d (fnegF u) (opp mode) hc ht hd p h1 h2
    rw [q, q2, q3]
    omega
  right := fun u c t d mode hu hc ht hd h1 h2 => by
    obtain ⟨p1, q1, r1, -⟩ := div_turn (u := u) mode hc
    obtain ⟨p2, q2, r2, -⟩ := div_turn (u := u) mode ht
    obtain ⟨p3, q3, r3, -⟩ := div_turn (u := u) mode hd
    have := div_monoP.right u (fnegF d) (fnegF t) (fnegF c) (opp mode) hu p3 p2 p1 (by omega) (by omega)
    rw [q1, q2, q3]
    omega
  dirs := fun t u ht hu ft fu => by
    obtain ⟨p1, q1, r1, s1⟩ := div_turn (u := t) 1 hu
    obtain ⟨-, q2, -, -⟩ := div_turn (u := t) 2 hu
    obtain ⟨d1, d2, d3⟩ := div_monoP.dirs t (fnegF u) ht p1 ft (s1 fu)
    rw [show opp 1 = 2 from rfl] at q1
    rw [show opp 2 = 1 from rfl] at q2
    rw [q1, q2]
    omega
end Go.Proofs.YtekocoklfnojmaaGreatDoor
