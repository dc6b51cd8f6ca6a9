/- Rounded square roots of slim dyads enclose the exact one, as plain facts. No program stands here. -/
import Derived.Test.YtjohpdobnedilaaGreatDoorCDQuoEncl
namespace Go.Proofs.YtjohpdobnedilaaGreatDoor

theorem isq_ex (N : Nat) : ∃ s, s * s ≤ N ∧ N < (s + 1) * (s + 1) := by
  induction N with
  | zero => exact ⟨0, by omega, by omega⟩
  | succ n ih =>
    obtain ⟨s, h1, h2⟩ := ih
    by_cases h : n + 1 < (s + 1) * (s + 1)
    · exact ⟨s, by omega, h⟩
    · refine ⟨s + 1, by omega, ?_⟩
      have e : (s + 1 + 1) * (s + 1 + 1) = (s + 1) * (s + 1) + 2 * (s + 1) + 1 := by rw [Nat.add_mul (s + 1) 1, Nat.mul_add (s + 1) (s + 1) 1]; omega
      omega
/-- the root without its fraction -/
noncomputable def isq (N : Nat) : Nat := (isq_ex N).choose
theorem isq_spec (N : Nat) : isq N * isq N ≤ N ∧ N < (isq N + 1) * (isq N + 1) := (isq_ex N).choose_spec
theorem isq_le {N a : Nat} : a ≤ isq N ↔ a * a ≤ N := by
  obtain ⟨h1, h2⟩ := isq_spec N
  constructor
  · intro h; exact Nat.le_trans (Nat.mul_le_mul h h) h1
  · intro h
    rcases Nat.lt_or_ge (isq N) a with h3 | h3
    · have := Nat.mul_le_mul (show isq N + 1 ≤ a from h3) (show isq N + 1 ≤ a from h3)
      omega
    · exact h3
theorem isq_of {N s : Nat} (h1 : s * s ≤ N) (h2 : N < (s + 1) * (s + 1)) : s = isq N := by
  have a := isq_le.2 h1
  rcases Nat.lt_or_ge s (isq N) with h | h
  · have := isq_le.1 (show s + 1 ≤ isq N from h)
    omega
  · omega
theorem isq_sq (a : Nat) : isq (a * a) = a := by
  refine (isq_of (Nat.le_refl _) ?_).symm
  have e : (a + 1) * (a + 1) = a * a + 2 * a + 1 := by rw [Nat.add_mul a 1, Nat.mul_add a a 1]; omega
  omega

/-- the shift of a root -/
def rsh (m e p : Int) : Int := if (e - (2 * (p + 1) - (blen m.natAbs : Int))) % 2 = 0 then 2 * (p + 1) - (blen m.natAbs : Int) else 2 * (p + 1) - (blen m.natAbs : Int) + 1
/-- the root with its tail -/
noncomputable def rtail (m sh : Int) : Int := 2 * (isq (shf m sh).toNat : Int) + if decide (sh < 0) || decide ((isq (shf m sh).toNat : Int) * (isq (shf m sh).toNat : Int) ≠ shf m sh) then 1 else 0
/-- the rounded root -/
noncomputable def dsqrt (d : Dy) (p mode : Int) : Dy := match d with
  | some (m, e) => if 1 ≤ p ∧ p ≤ 4096 ∧ 0 ≤ m then drd (rtail m (rsh m e p)) ((e - rsh m e p) / 2 - 1) p.toNat mode else none
  | none => none

theorem shU_pos (sh : Int) : 0 < shU sh := by
  unfold shU
  split
  · omega
  · exact two_pos _
theorem shV_pos (sh : Int) : 0 < shV sh := by
  unfold shV
  split
  · exact two_pos _
  · omega
theorem shf_pos {M sh : Int} (hM : 0 ≤ M) : 0 ≤ shf M sh := shf_nonneg hM

/-- squares against what is under the root -/
theorem sq_shf {M sh : Int} (n : Int) : n ≤ shf M sh ↔ n * shU sh ≤ M * shV sh := by
  unfold shf shU shV
  by_cases hs : 0 ≤ sh
  · rw [if_pos hs, if_pos hs, if_pos hs, Int.mul_one]
  · rw [if_neg hs, if_neg hs, if_neg hs, Int.mul_one]
    exact le_div_iff' (two_pos _)

theorem isq_int {S : Int} (h : 0 ≤ S) {c : Int} (hc : 0 ≤ c) : c ≤ (isq S.toNat : Int) ↔ c * c ≤ S := by
  obtain ⟨a, rfl⟩ := Int.eq_ofNat_of_zero_le hc
  obtain ⟨N, rfl⟩ := Int.eq_ofNat_of_zero_le h
  rw [Int.toNat_natCast]
  have := @isq_le N a
  constructor
  · intro h1
    have h2 := this.1 (by omega)
    have h3 : ((a * a : Nat) : Int) ≤ (N : Int) := by omega
    rwa [Int.natCast_mul] at h3
  · intro h1
    rw [← Int.natCast_mul] at h1
    have := this.2 (by omega)
    omega

theorem sq_lt_of {a b : Int} (ha : 0 ≤ a) (h : a < b) : a * a < b * b := by
  have h1 : a * a ≤ a * b := Int.mul_le_mul_of_nonneg_left (Int.le_of_lt h) ha
  have h2 : a * b < b * b := Int.mul_lt_mul_of_pos_right h (by omega)
  omega

theorem root_key {M sh : Int} (hM : 0 < M) (hodd : M % 2 = 1) :
    (∀ c : Int, 0 ≤ c → (2 * c ≤ rtail M sh ↔ c * c * shU sh ≤ M * shV sh)) ∧ (∀ c : Int, 0 ≤ c → (rtail M sh ≤ 2 * c ↔ M * shV sh ≤ c * c * shU sh)) := by
  have hS := shf_pos (sh := sh) (Int.le_of_lt hM)
  have hr := fun c (hc : 0 ≤ c) => isq_int hS hc
  have hsq := fun n => sq_shf (M := M) (sh := sh) n
  have hU := shU_pos sh
  have hspec := isq_spec (shf M sh).toNat
  -- exact: the square is what stands under the root
  have hex : ¬ sh < 0 → shf M sh * shU sh = M * shV sh := by
    intro h
    unfold shf shU shV
    rw [if_pos (by omega), if_pos (by omega), if_pos (by omega), Int.mul_one]
  have hne : sh < 0 → ∀ n : Int, n * shU sh ≠ M * shV sh := by
    intro h n
    unfold shU shV
    rw [if_neg (by omega), if_neg (by omega), Int.mul_one]
    obtain ⟨k, hk⟩ : ∃ k : Nat, (-sh).toNat = k + 1 := ⟨(-sh).toNat - 1, by omega⟩
    rw [hk, Int.pow_succ, ← Int.mul_assoc]
    intro h2
    rw [← h2, Int.mul_emod_left] at hodd
    exact absurd hodd (by decide)
  unfold rtail
  have hR0 : (0 : Int) ≤ (isq (shf M sh).toNat : Int) := Int.natCast_nonneg _
  generalize (isq (shf M sh).toNat : Int) = R at *
  generalize shf M sh = S at *
  have hRR : R * R ≤ S := (hr R hR0).1 (Int.le_refl _)
  by_cases ht : (decide (sh < 0) || decide (R * R ≠ S)) = true
  · rw [if_pos ht]
    refine ⟨fun c hc => ?_, fun c hc => ?_⟩
    · rw [← hsq, ← hr c hc]; omega
    · have h1 := hsq (c * c)
      have h2 := hr c hc
      constructor
      · intro h
        have h3 : ¬ c * c * shU sh ≤ M * shV sh := by rw [← h1, ← h2]; omega
        omega
      · intro h
        have h3 : R < c := by
          rcases Int.lt_or_le R c with h4 | h4
          · exact h4
          · exfalso
            have h5 := h1.1 (h2.1 h4)
            have h6 : c * c * shU sh = M * shV sh := Int.le_antisymm h5 h
            rcases Bool.or_eq_true _ _ ▸ ht with h7 | h7
            · exact hne (of_decide_eq_true h7) _ h6
            · by_cases h8 : sh < 0
              · exact hne h8 _ h6
              · have h9 := hex h8
                rw [← h9] at h6
                have h10 : c * c = S := Int.eq_of_mul_eq_mul_right (by omega) h6
                have h11 : c * c ≤ R * R := Int.mul_le_mul h4 h4 hc hR0
                exact (of_decide_eq_true h7) (by omega)
        omega
  · rw [if_neg ht]
    have ht2 : ¬ sh < 0 ∧ R * R = S := by
      rw [Bool.or_eq_true, decide_eq_true_iff, decide_eq_true_iff] at ht
      omega
    obtain ⟨t1, t2⟩ := ht2
    have h9 := hex t1
    refine ⟨fun c hc => ?_, fun c hc => ?_⟩
    · rw [← hsq, ← hr c hc]; omega
    · rw [← h9, ← t2]
      constructor
      · intro h
        exact Int.mul_le_mul_of_nonneg_right (Int.mul_le_mul (by omega) (by omega) hR0 hc) (Int.le_of_lt hU)
      · intro h
        have h5 := Int.le_of_mul_le_mul_right h hU
        rcases Int.lt_or_le c R with h6 | h6
        · have := sq_lt_of hc h6
          omega
        · omega

/-- how many bits the root has -/
theorem rtail_size {M p sh : Int} (hM : 0 < M) (hodd : M % 2 = 1) (hp : 1 ≤ p) (hsh : sh = 2 * (p + 1) - (blen M.natAbs : Int) ∨ sh = 2 * (p + 1) - (blen M.natAbs : Int) + 1) : 2 ^ (p.toNat + 1) ≤ rtail M sh ∧ rtail M sh ≤ 2 ^ (p.toNat + 3) := by
  obtain ⟨K1, K2⟩ := root_key (sh := sh) hM hodd
  have h1 := K1 (2 ^ p.toNat) (Int.le_of_lt (two_pos _))
  have h2 := K2 (2 ^ (p.toNat + 2)) (Int.le_of_lt (two_pos _))
  have e1 : (2 : Int) ^ (p.toNat + 1) = 2 * 2 ^ p.toNat := by rw [Int.pow_succ, Int.mul_comm]
  have e2 : (2 : Int) ^ (p.toNat + 3) = 2 * 2 ^ (p.toNat + 2) := by rw [show p.toNat + 3 = p.toNat + 2 + 1 by omega, Int.pow_succ (n := p.toNat + 2), Int.mul_comm]
  rw [e1, e2, h1, h2]
  clear K1 K2 h1 h2 e1 e2
  obtain ⟨l, hl, hl1, hl2⟩ := blen_spec (show M.natAbs ≠ 0 by omega)
  rw [hl] at hsh
  have g1 : ((2 ^ l : Nat) : Int) ≤ M := by omega
  have g2 : M ≤ ((2 ^ (l + 1) : Nat) : Int) := by omega
  rw [Int.natCast_pow] at g1 g2
  obtain ⟨P, hPp⟩ : ∃ P : Nat, p = P := ⟨p.toNat, by omega⟩
  subst hPp
  rw [Int.toNat_natCast, ← Int.pow_add, ← Int.pow_add]
  unfold shU shV
  by_cases hs : 0 ≤ sh
  · rw [if_pos hs, if_pos hs, Int.mul_one, Int.mul_one]
    obtain ⟨s, hs2⟩ : ∃ s : Nat, sh.toNat = s := ⟨_, rfl⟩
    rw [hs2]
    have h3 : (2 : Int) ^ l * 2 ^ s ≤ M * 2 ^ s := Int.mul_le_mul_of_nonneg_right g1 (Int.le_of_lt (two_pos s))
    have h4 : M * 2 ^ s ≤ (2 : Int) ^ (l + 1) * 2 ^ s := Int.mul_le_mul_of_nonneg_right g2 (Int.le_of_lt (two_pos s))
    rw [← Int.pow_add] at h3 h4
    have m1 : (2 : Int) ^ (P + P) ≤ 2 ^ (l + s) := by
      have := Nat.pow_le_pow_right (n := 2) (by omega) (show P + P ≤ l + s by omega)
      have h5 : ((2 ^ (P + P) : Nat) : Int) ≤ ((2 ^ (l + s) : Nat) : Int) := by omega
      rwa [Int.natCast_pow, Int.natCast_pow] at h5
    have m2 : (2 : Int) ^ (l + 1 + s) ≤ 2 ^ (P + 2 + (P + 2)) := by
      have := Nat.pow_le_pow_right (n := 2) (by omega) (show l + 1 + s ≤ P + 2 + (P + 2) by omega)
      have h5 : ((2 ^ (l + 1 + s) : Nat) : Int) ≤ ((2 ^ (P + 2 + (P + 2)) : Nat) : Int) := by omega
      rwa [Int.natCast_pow, Int.natCast_pow] at h5
    exact ⟨Int.le_trans m1 h3, Int.le_trans h4 m2⟩
  · rw [if_neg hs, if_neg hs, Int.mul_one]
    obtain ⟨s, hs2⟩ : ∃ s : Nat, (-sh).toNat = s := ⟨_, rfl⟩
    rw [hs2, ← Int.pow_add, ← Int.pow_add]
    have m1 : (2 : Int) ^ (P + P + s) ≤ 2 ^ l := by
      have := Nat.pow_le_pow_right (n := 2) (by omega) (show P + P + s ≤ l by omega)
      have h5 : ((2 ^ (P + P + s) : Nat) : Int) ≤ ((2 ^ l : Nat) : Int) := by omega
      rwa [Int.natCast_pow, Int.natCast_pow] at h5
    have m2 : (2 : Int) ^ (l + 1) ≤ 2 ^ (P + 2 + (P + 2) + s) := by
      have := Nat.pow_le_pow_right (n := 2) (by omega) (show l + 1 ≤ P + 2 + (P + 2) + s by omega)
      have h5 : ((2 ^ (l + 1) : Nat) : Int) ≤ ((2 ^ (P + 2 + (P + 2) + s) : Nat) : Int) := by omega
      rwa [Int.natCast_pow, Int.natCast_pow] at h5
    exact ⟨Int.le_trans m1 g1, Int.le_trans g2 m2⟩

/-- a candidate for the root against the number -/
theorem root_cmp {m e y f c sh g : Int} {T8 T16 : Nat} (h8 : T8 = 8000) (h16 : T16 = 16000) {B : Nat} (hB : B = 13400) (hn : Nd (some (m, e))) (hs : Slim (some (m, e))) (he : -2000 ≤ e) (he2 : e ≤ 2640) (h1 : -1000 ≤ sh) (h2 : sh ≤ 1000) (hg : 2 * g = e - sh) (hf : -(T8 : Int) ≤ f)
    (hy : (y * 2 ^ (f + T8).toNat).natAbs < 2 ^ B) (heq : y * 2 ^ (f + T8).toNat = c * 2 ^ (g + T8).toNat) :
    dmk y f ≠ none ∧ dmul (dmk y f) (dmk y f) ≠ none ∧ sgn3 (sc (dmul (dmk y f) (dmk y f))) (sc (some (m, e))) = sgn3 (c * c * shU sh) (m * shV sh) := by
  obtain ⟨_, N, hI, hN⟩ := hs
  obtain ⟨m1, e1, g1, _, g3, g4⟩ := hI
  obtain ⟨rfl, rfl⟩ : m1 = m ∧ e1 = e := by simpa using g1.symm
  have hI : Is (some (m1, e1)) 2000 (m1 * 2 ^ (e1 + (2000 : Nat)).toNat) := ⟨m1, e1, rfl, hn, g3, rfl⟩
  have hL := is_mk (y := y) (f := f) (S := T8) (B := B) hf (by omega) (by omega) hy
  have hLb := abs_mul_lt hy hy
  have hM := hL.mul hL (by omega) hLb (by omega)
  have hA := hI.up (T16 - 2000)
  rw [show 2000 + (T16 - 2000) = T16 by omega] at hA
  rw [show T8 + T8 = T16 by omega] at hM
  refine ⟨is_ne hL, is_ne hM, ?_⟩
  rw [is_cmp hM hA (by omega), heq]
  obtain ⟨t1, ht1⟩ : ∃ t1 : Nat, (t1 : Int) = e1 + 2000 := ⟨(e1 + 2000).toNat, by omega⟩
  obtain ⟨t3, ht3⟩ : ∃ t3 : Nat, (t3 : Int) = g + T8 := ⟨(g + T8).toNat, by omega⟩
  obtain ⟨t4, ht4⟩ : ∃ t4 : Nat, T16 - 2000 = t4 := ⟨_, rfl⟩
  rw [show (e1 + (2000 : Nat)).toNat = t1 by omega, show (g + T8).toNat = t3 by omega, ht4]
  have hx : c * 2 ^ t3 * (c * 2 ^ t3) = c * c * 2 ^ (t3 + t3) := by
    rw [Int.pow_add, Int.mul_assoc, Int.mul_left_comm (2 ^ t3) c, ← Int.mul_assoc, ← Int.mul_assoc]
  have hyy : m1 * 2 ^ t1 * 2 ^ t4 = m1 * 2 ^ (t1 + t4) := by rw [Int.pow_add, Int.mul_assoc]
  rw [hx, hyy]
  unfold shU shV
  by_cases hsh : 0 ≤ sh
  · rw [if_pos hsh, if_pos hsh, Int.mul_one]
    obtain ⟨s, hs3⟩ : ∃ s : Nat, (s : Int) = sh := ⟨sh.toNat, by omega⟩
    rw [show sh.toNat = s by omega, show t1 + t4 = s + (t3 + t3) by omega, Int.pow_add 2 s, ← Int.mul_assoc]
    exact sgn3_pos_scale (two_pos _)
  · rw [if_neg hsh, if_neg hsh, Int.mul_one]
    obtain ⟨s, hs3⟩ : ∃ s : Nat, (s : Int) = -sh := ⟨(-sh).toNat, by omega⟩
    rw [show (-sh).toNat = s by omega, show t3 + t3 = s + (t1 + t4) by omega, Int.pow_add 2 s, ← Int.mul_assoc]
    exact sgn3_pos_scale (two_pos _)

/-- what the statement compares -/
structure RootIs (a lo hi : Dy) (x y : Int) : Prop where
  lon : lo ≠ none
  hin : hi ≠ none
  lob : blen (dm lo).natAbs ≤ 80
  hib : blen (dm hi).natAbs ≤ 80
  lom : dmul lo lo ≠ none
  him : dmul hi hi ≠ none
  cx : sgn3 (sc (dmul lo lo)) (sc a) = x
  cy : sgn3 (sc a) (sc (dmul hi hi)) = y
  xle : ¬ 0 < x
  yle : ¬ 0 < y
  same : lo = hi ↔ x = 0

theorem dsqrt_drd {m e p : Int} (mode : Int) (hm : 0 ≤ m) (h1 : 1 ≤ p) (h2 : p ≤ 4096) : dsqrt (some (m, e)) p mode = drd (rtail m (rsh m e p)) ((e - rsh m e p) / 2 - 1) p.toNat mode := by
  show (if 1 ≤ p ∧ p ≤ 4096 ∧ 0 ≤ m then _ else none) = _
  rw [if_pos ⟨h1, h2, hm⟩]
theorem rsh_or (m e p : Int) : rsh m e p = 2 * (p + 1) - (blen m.natAbs : Int) ∨ rsh m e p = 2 * (p + 1) - (blen m.natAbs : Int) + 1 := by
  unfold rsh
  split
  · left; rfl
  · right; rfl
theorem rsh_even (m e p : Int) : (e - rsh m e p) % 2 = 0 := by
  unfold rsh
  split <;> omega

theorem dsqrt_zero {e p : Int} (mode : Int) (h1 : 1 ≤ p) (h2 : p ≤ 4096) : dsqrt (some (0, e)) p mode = some (0, 0) := by
  rw [dsqrt_drd mode (Int.le_refl _) h1 h2]
  have hb : blen (0 : Int).natAbs = 0 := by simp [blen]
  have hs : 0 ≤ rsh 0 e p := by
    have := rsh_or 0 e p
    rw [hb] at this
    omega
  have hT : rtail 0 (rsh 0 e p) = 0 := by
    unfold rtail shf
    rw [if_pos hs, Int.zero_mul]
    have h0 : isq (0 : Int).toNat = 0 := (isq_of (N := 0) (s := 0) (by omega) (by omega)).symm
    rw [h0, decide_eq_false (by omega)]
    rfl
  rw [hT]
  unfold drd
  rw [if_pos (by simp [blen]), dmk_zero]

theorem root_is {a : Dy} {p : Int} (ha : Slim a) (hpos : 0 ≤ dm a) (h1 : 1 ≤ p) (h2 : p ≤ 80) : ∃ x y, RootIs a (dsqrt a p 1) (dsqrt a p 2) x y := by
  obtain ⟨m, e, rfl, hn, hr⟩ := slim_range ha
  have hm0 : 0 ≤ m := hpos
  by_cases hm : m = 0
  · subst hm
    have he : e = 0 := by rcases hr with ⟨_, h⟩ | ⟨h, _⟩ <;> omega
    subst he
    rw [dsqrt_zero 1 h1 (by omega), dsqrt_zero 2 h1 (by omega)]
    have hmu : dmul (some (0, 0)) (some (0, 0)) = some (0, 0) := by show dmk (0 * 0) (0 + 0) = _; rw [Int.zero_mul, dmk_zero]
    exact ⟨0, 0, by simp, by simp, by simp [dm, blen], by simp [dm, blen], by rw [hmu]; simp, by rw [hmu]; simp, by rw [hmu]; exact sgn3_eq rfl, by rw [hmu]; exact sgn3_eq rfl, by omega, by omega, by simp⟩
  · have hr : -2000 ≤ e ∧ e ≤ 2640 := by rcases hr with ⟨h, _⟩ | ⟨_, h⟩ <;> omega
    have hbl : blen m.natAbs ≤ 640 := ha.1
    have hodd : m.natAbs % 2 = 1 := by
      rcases hn with ⟨h, _⟩ | ⟨h, _⟩
      · exact absurd h hm
      · exact h
    have hM : 0 < m := by omega
    have hMo : m % 2 = 1 := by omega
    have hor := rsh_or m e p
    have hev := rsh_even m e p
    obtain ⟨K1, K2⟩ := root_key (sh := rsh m e p) hM hMo
    obtain ⟨big, small⟩ := rtail_size hM hMo h1 hor
    have hdq := fun mode => dsqrt_drd (m := m) (e := e) (p := p) mode hm0 h1 (by omega)
    rw [hdq, hdq]
    have s1 : -1000 ≤ rsh m e p := by omega
    have s2 : rsh m e p ≤ 1000 := by omega
    generalize rsh m e p = sh at *
    obtain ⟨g, hg⟩ : ∃ g, 2 * g = e - sh := ⟨(e - sh) / 2, by omega⟩
    rw [show (e - sh) / 2 = g by omega]
    have cmpL := fun y f c T8 T16 h8 h16 B hB hf hy heq => root_cmp (m := m) (e := e) (y := y) (f := f) (c := c) (sh := sh) (g := g) (T8 := T8) (T16 := T16) h8 h16 (B := B) hB hn ha hr.1 hr.2 s1 s2 hg hf hy heq
    generalize rtail m sh = T at *
    clear hdq
    have hT0 : 0 < T := Int.lt_of_lt_of_le (two_pos _) big
    obtain ⟨P, hP⟩ : ∃ P : Nat, p.toNat = P := ⟨_, rfl⟩
    rw [hP] at big small ⊢
    have hbT : blen T.natAbs ≤ P + 4 := by
      refine blen_le_of_lt ?_
      have e1 : ((2 ^ (P + 3) : Nat) : Int) = 2 ^ (P + 3) := by rw [Int.natCast_pow]; rfl
      have e2 : 2 ^ (P + 4) = 2 * 2 ^ (P + 3) := by rw [Nat.pow_succ (n := 2) (m := P + 3), Nat.mul_comm]
      rw [← e1] at small
      have := Nat.pow_pos (n := P + 3) (show 0 < 2 by omega)
      omega
    have hbT2 : P + 2 ≤ blen T.natAbs := by
      obtain ⟨l, hl, _, hl2⟩ := blen_spec (show T.natAbs ≠ 0 by omega)
      rw [hl]
      have e1 : ((2 ^ (P + 1) : Nat) : Int) = 2 ^ (P + 1) := by rw [Int.natCast_pow]; rfl
      rw [← e1] at big
      have h5 : 2 ^ (P + 1) < 2 ^ (l + 1) := by omega
      have := (Nat.pow_lt_pow_iff_right (show 1 < 2 by omega)).1 h5
      omega
    obtain ⟨T8, h8⟩ : ∃ T8 : Nat, T8 = 8000 := ⟨_, rfl⟩
    obtain ⟨T16, h16⟩ : ∃ T16 : Nat, T16 = 16000 := ⟨_, rfl⟩
    obtain ⟨B, hB⟩ : ∃ B : Nat, B = 13400 := ⟨_, rfl⟩
    have cmpL := fun y f c => cmpL y f c T8 T16 h8 h16 B hB
    rcases drd_cases T (g - 1) P 1 with ⟨hx, d1⟩ | ⟨k, hk, htz, hno, d1⟩
    · have d2 : drd T (g - 1) P 2 = dmk T (g - 1) := by unfold drd; rw [if_pos hx]
      rw [d1, d2]
      have htz : 2 ≤ tzf T.natAbs := by omega
      obtain ⟨w, hw1, hw2, _⟩ := odd_part (show T ≠ 0 by omega)
      obtain ⟨t, ht⟩ : ∃ t, tzf T.natAbs = t + 1 := ⟨tzf T.natAbs - 1, by omega⟩
      rw [ht, Int.pow_succ, ← Int.mul_assoc, Int.mul_comm (w * 2 ^ t) 2] at hw1
      generalize w * 2 ^ t = c at *
      have q1 := (K1 c (by omega)).1 (by omega)
      have q2 := (K2 c (by omega)).1 (by omega)
      obtain ⟨u, hu⟩ : ∃ u : Nat, (u : Int) = g - 1 + T8 := ⟨(g - 1 + T8).toNat, by omega⟩
      have hb2 : (T * 2 ^ (g - 1 + (T8 : Int)).toNat).natAbs < 2 ^ B := by
        have h5 : T.natAbs < 2 ^ (P + 4) := Nat.lt_of_lt_of_le (blen_lt _) (Nat.pow_le_pow_right (by omega) hbT)
        have h6 := pow_bound h5 (e := (g - 1 + (T8 : Int)).toNat) (b := B - (P + 4)) (by omega)
        rwa [show P + 4 + (B - (P + 4)) = B by omega] at h6
      obtain ⟨n1, n2, n3⟩ := cmpL T (g - 1) c (by omega) hb2 (by
        rw [show (g - 1 + (T8 : Int)).toNat = u by omega, show (g + (T8 : Int)).toNat = u + 1 by omega, hw1, Int.pow_succ, Int.mul_comm (2 ^ u) 2, ← Int.mul_assoc, Int.mul_comm 2 c])
      have n4 : sgn3 (c * c * shU sh) (m * shV sh) = 0 := sgn3_eq (Int.le_antisymm q1 q2)
      rw [n4] at n3
      have hb3 := blen_dmk (e := g - 1) hx
      exact ⟨0, 0, n1, n1, by omega, by omega, n2, n2, n3, by rw [sgn3_flip, n3]; rfl, by omega, by omega, by simp⟩
    · have d2 : drd T (g - 1) P 2 = dmk (T / 2 ^ (k + 1) + if rup T k 2 then 1 else 0) (g - 1 + ((k + 1 : Nat) : Int)) := by
        rcases drd_cases T (g - 1) P 2 with ⟨hx, _⟩ | ⟨k', hk', _, _, d2⟩
        · exact absurd hx hno
        · obtain rfl : k' = k := by omega
          exact d2
      have r1 : rup T k 1 = false := rfl
      have r2 : rup T k 2 = true := rfl
      rw [r1] at d1
      rw [r2] at d2
      simp only [Bool.false_eq_true, if_false, Int.add_zero] at d1
      simp only [if_true] at d2
      have har := around_of hk htz
      rw [d1, d2]
      obtain ⟨z1, z2⟩ := har.sizes
      have heq := har.eq
      have hpos := har.pos
      have hlt := har.lt
      have hq0 : 0 ≤ T / 2 ^ (k + 1) := Int.ediv_nonneg (Int.le_of_lt hT0) (Int.le_of_lt (two_pos _))
      generalize T / 2 ^ (k + 1) = q at *
      generalize T % 2 ^ (k + 1) = r at *
      rw [Int.pow_succ, ← Int.mul_assoc] at heq
      rw [Int.pow_succ] at hlt
      have hp2 := two_pos k
      have e5 : (q + 1) * 2 ^ k = q * 2 ^ k + 2 ^ k := by rw [Int.add_mul, Int.one_mul]
      have hc1 : 0 ≤ q * 2 ^ k := Int.mul_nonneg hq0 (Int.le_of_lt hp2)
      have c1 : ¬ m * shV sh ≤ q * 2 ^ k * (q * 2 ^ k) * shU sh := by rw [← K2 _ hc1]; omega
      have c2 : ¬ (q + 1) * 2 ^ k * ((q + 1) * 2 ^ k) * shU sh ≤ m * shV sh := by rw [← K1 _ (by omega), e5]; omega
      obtain ⟨u, hu⟩ : ∃ u : Nat, (u : Int) = g + T8 := ⟨(g + T8).toNat, by omega⟩
      have hf : (g - 1 + ((k + 1 : Nat) : Int) + (T8 : Int)).toNat = u + k := by omega
      have hbq : ∀ y : Int, y.natAbs ≤ 2 ^ P → (y * 2 ^ (g - 1 + ((k + 1 : Nat) : Int) + (T8 : Int)).toNat).natAbs < 2 ^ B := by
        intro y hy
        have h5 : y.natAbs < 2 ^ (P + 1) := by rw [Nat.pow_succ]; have := Nat.pow_pos (n := P) (show 0 < 2 by omega); omega
        have h6 := pow_bound h5 (e := (g - 1 + ((k + 1 : Nat) : Int) + (T8 : Int)).toNat) (b := B - (P + 1)) (by omega)
        rwa [show P + 1 + (B - (P + 1)) = B by omega] at h6
      have hye : ∀ y : Int, y * 2 ^ (g - 1 + ((k + 1 : Nat) : Int) + (T8 : Int)).toNat = y * 2 ^ k * 2 ^ (g + (T8 : Int)).toNat := by
        intro y
        rw [hf, show (g + (T8 : Int)).toNat = u by omega, Int.pow_add, Int.mul_comm (2 ^ u), Int.mul_assoc]
      obtain ⟨n1, n2, n3⟩ := cmpL q (g - 1 + ((k + 1 : Nat) : Int)) (q * 2 ^ k) (by omega) (hbq q z1) (hye q)
      obtain ⟨v1, v2, v3⟩ := cmpL (q + 1) (g - 1 + ((k + 1 : Nat) : Int)) ((q + 1) * 2 ^ k) (by omega) (hbq (q + 1) z2) (hye (q + 1))
      have n4 : sgn3 (q * 2 ^ k * (q * 2 ^ k) * shU sh) (m * shV sh) = -1 := sgn3_is_lt (by omega)
      have v4 : sgn3 ((q + 1) * 2 ^ k * ((q + 1) * 2 ^ k) * shU sh) (m * shV sh) = 1 := sgn3_gt (by omega)
      rw [n4] at n3
      rw [v4] at v3
      have hb1 := blen_odd (show 1 ≤ P by omega) z1 (g - 1 + ((k + 1 : Nat) : Int))
      have hb2 := blen_odd (show 1 ≤ P by omega) z2 (g - 1 + ((k + 1 : Nat) : Int))
      refine ⟨-1, -1, n1, v1, by omega, by omega, n2, v2, n3, by rw [sgn3_flip, v3], by omega, by omega, ?_⟩
      constructor
      · intro hlh
        rw [hlh, v3] at n3
        omega
      · intro h; omega

/-- the root of a square, with enough bits -/
theorem root_sq {m e : Int} (hn : Nd (some (m, e))) (hs : Slim (some (m, e))) (he : -2000 ≤ e) (he2 : e ≤ 2640) : dsqrt (dmul (some (m, e)) (some (m, e))) 700 0 = dabs (some (m, e)) := by
  have hda : dabs (some (m, e)) = some ((m.natAbs : Int), e) := rfl
  rw [hda]
  by_cases hm : m = 0
  · subst hm
    have hmu : dmul (some (0, e)) (some (0, e)) = some (0, 0) := by show dmk (0 * 0) (e + e) = _; rw [Int.zero_mul, dmk_zero]
    rw [hmu, dsqrt_zero 0 (by omega) (by omega)]
    have he0 : e = 0 := by rcases hn with ⟨_, h⟩ | ⟨h, _⟩; exact h; exact absurd h (by decide)
    rw [he0]; rfl
  · have hbl : blen m.natAbs ≤ 640 := hs.1
    have hodd : m.natAbs % 2 = 1 := by
      rcases hn with ⟨h, _⟩ | ⟨h, _⟩
      · exact absurd h hm
      · exact h
    obtain ⟨M, hM⟩ : ∃ M : Nat, m.natAbs = M := ⟨_, rfl⟩
    have hsq : m * m = ((M * M : Nat) : Int) := by rw [← hM, Int.natCast_mul, Int.natAbs_mul_self' m]
    rw [hM] at hbl hodd ⊢
    have hMM : (M * M) % 2 = 1 := by rw [Nat.mul_mod, hodd]
    obtain ⟨a64, h64⟩ : ∃ a : Nat, a = 640 := ⟨_, rfl⟩
    have hMl : M < 2 ^ a64 := Nat.lt_of_lt_of_le (blen_lt M) (Nat.pow_le_pow_right (by omega) (by omega))
    have hb2 : blen (M * M) ≤ a64 + a64 := blen_le_of_lt (by rw [Nat.pow_add]; exact Nat.mul_lt_mul_of_lt_of_le hMl (Nat.le_of_lt hMl) (Nat.pow_pos (by omega)))
    have hmu : dmul (some (m, e)) (some (m, e)) = some (((M * M : Nat) : Int), e + e) := by
      show dmk (m * m) (e + e) = _
      rw [hsq]
      refine dmk_norm (Or.inr ⟨by rw [Int.natAbs_natCast]; exact hMM, by omega, by rw [Int.natAbs_natCast]; omega⟩)
    rw [hmu, dsqrt_drd 0 (Int.natCast_nonneg _) (by omega) (by omega)]
    have hor := rsh_or ((M * M : Nat) : Int) (e + e) 700
    have hev := rsh_even ((M * M : Nat) : Int) (e + e) 700
    rw [Int.natAbs_natCast] at hor
    generalize rsh ((M * M : Nat) : Int) (e + e) 700 = sh at *
    obtain ⟨h, hh⟩ : ∃ h : Nat, sh = 2 * (h : Int) := ⟨(sh / 2).toNat, by omega⟩
    have hshf : shf ((M * M : Nat) : Int) sh = (((M * 2 ^ h) * (M * 2 ^ h) : Nat) : Int) := by
      unfold shf
      rw [if_pos (by omega), show sh.toNat = h + h by omega, Nat.mul_mul_mul_comm, ← Nat.pow_add, Int.natCast_mul (M * M), Int.natCast_pow]
      rfl
    have hT : rtail ((M * M : Nat) : Int) sh = ((M * 2 ^ (h + 1) : Nat) : Int) := by
      unfold rtail
      rw [hshf, Int.toNat_natCast, isq_sq, decide_eq_false (by omega), decide_eq_false (by rw [Int.natCast_mul (M * 2 ^ h)]; simp), Nat.pow_succ, ← Nat.mul_assoc]
      simp only [Bool.or_self, Bool.false_eq_true, if_false]
      omega
    have hM0 : M ≠ 0 := by omega
    rw [hT, show (e + e - sh) / 2 - 1 = e - h - 1 by omega]
    unfold drd
    rw [Int.natAbs_natCast, blen_mul hM0, tzf_mul hM0, if_pos (by have : (700 : Int).toNat = 700 := rfl; omega)]
    have hc : ((M * 2 ^ (h + 1) : Nat) : Int) = (M : Int) * 2 ^ (h + 1) := by rw [Int.natCast_mul, Int.natCast_pow]; rfl
    rw [hc, dmk_shift, show e - (h : Int) - 1 + ((h + 1 : Nat) : Int) = e by omega]
    exact dmk_norm (Or.inr ⟨by rw [Int.natAbs_natCast]; exact hodd, by omega, by rw [Int.natAbs_natCast]; omega⟩)
end Go.Proofs.YtjohpdobnedilaaGreatDoor
