/- The rounded quotients of slim dyads enclose the exact one, as plain facts. No program stands here. -/
import Derived.Test.YtjohpdobnedilaaGreatDoorCDQuoMath
import Derived.Test.YtjohpdobnedilaaGreatDoorCDScaMath
namespace Go.Proofs.YtjohpdobnedilaaGreatDoor

theorem sgn3_pos_scale {x y t : Int} (h : 0 < t) : sgn3 (x * t) (y * t) = sgn3 x y := by
  unfold sgn3
  have e1 : x * t < y * t ↔ x < y := Int.mul_lt_mul_right h
  have e2 : y * t < x * t ↔ y < x := Int.mul_lt_mul_right h
  simp only [e1, e2]

/-- the quotient has at most three bits more -/
theorem qtail_small {M D p : Int} (hM : 0 < M) (hodd : M % 2 = 1) (hD : 0 < D) (hp : 1 ≤ p) : qtail M D p ≤ 2 ^ (p.toNat + 3) := by
  have h1 := (quo_key (p := p) hM hodd hD).2 (2 ^ (p.toNat + 2))
  have e0 : (2 : Int) ^ (p.toNat + 3) = 2 * 2 ^ (p.toNat + 2) := by rw [show p.toNat + 3 = p.toNat + 2 + 1 by omega, Int.pow_succ (n := p.toNat + 2), Int.mul_comm]
  rw [e0, h1]
  obtain ⟨l, hl, hl1, hl2⟩ := blen_spec (show D.natAbs ≠ 0 by omega)
  have hM1 := blen_lt M.natAbs
  have hq : qsh M D p = p + 1 + (blen D.natAbs : Int) - blen M.natAbs := rfl
  rw [hq, hl]
  generalize blen M.natAbs = b at *
  have eD : ((2 ^ l : Nat) : Int) ≤ D := by omega
  have eM : M ≤ ((2 ^ b : Nat) : Int) := by omega
  rw [Int.natCast_pow] at eM eD
  obtain ⟨P, hPp⟩ : ∃ P : Nat, p = P := ⟨p.toNat, by omega⟩
  subst hPp
  rw [Int.toNat_natCast]
  have hP : (0 : Int) < 2 ^ (P + 2) := two_pos _
  unfold shU shV
  by_cases hs : 0 ≤ (P : Int) + 1 + ((l + 1 : Nat) : Int) - (b : Int)
  · rw [if_pos hs, if_pos hs, Int.mul_one]
    obtain ⟨s, hs2⟩ : ∃ s : Nat, ((P : Int) + 1 + ((l + 1 : Nat) : Int) - (b : Int)).toNat = s := ⟨_, rfl⟩
    rw [hs2]
    have h3 : (2 : Int) ^ (P + 2) * 2 ^ l ≤ 2 ^ (P + 2) * D := Int.mul_le_mul_of_nonneg_left eD (Int.le_of_lt hP)
    have h4 : M * 2 ^ s ≤ (2 : Int) ^ b * 2 ^ s := Int.mul_le_mul_of_nonneg_right eM (Int.le_of_lt (two_pos s))
    rw [← Int.pow_add] at h3 h4
    have h5 : b + s = P + 2 + l := by omega
    rw [h5] at h4
    exact Int.le_trans h4 h3
  · rw [if_neg hs, if_neg hs, Int.mul_one]
    obtain ⟨s, hs2⟩ : ∃ s : Nat, (-((P : Int) + 1 + ((l + 1 : Nat) : Int) - (b : Int))).toNat = s := ⟨_, rfl⟩
    rw [hs2]
    have h3 : (2 : Int) ^ (P + 2) * 2 ^ l * 2 ^ s ≤ 2 ^ (P + 2) * D * 2 ^ s := Int.mul_le_mul_of_nonneg_right (Int.mul_le_mul_of_nonneg_left eD (Int.le_of_lt hP)) (Int.le_of_lt (two_pos s))
    rw [← Int.pow_add, ← Int.pow_add] at h3
    have h5 : P + 2 + l + s = b := by omega
    rw [h5] at h3
    exact Int.le_trans eM h3

/-- a candidate for the quotient against the dividend -/
theorem quo_cmp {m e m' e' y f c sh : Int} {T8 T10 : Nat} (h8 : T8 = 8000) (h10 : T10 = 10000) {B : Nat} (hB : B = 13400) (hn : Nd (some (m, e))) (hn' : Nd (some (m', e'))) (hs : Slim (some (m, e))) (hs' : Slim (some (m', e'))) (he : -2000 ≤ e) (he' : -2000 ≤ e') (he2 : e' ≤ 2640) (h1 : -1000 ≤ sh) (h2 : sh ≤ 1000) (hf : -(T8 : Int) ≤ f)
    (hy : (y * 2 ^ (f + T8).toNat).natAbs < 2 ^ B) (heq : y * 2 ^ (f + T8).toNat = c * 2 ^ (e - e' - sh + T8).toNat) :
    dmk y f ≠ none ∧ dmul (dmk y f) (some (m', e')) ≠ none ∧ sgn3 (sc (dmul (dmk y f) (some (m', e')))) (sc (some (m, e))) = sgn3 (c * m' * shU sh) (m * shV sh) := by
  obtain ⟨_, N, hI, hN⟩ := hs
  obtain ⟨_, N', hI', hN'⟩ := hs'
  obtain ⟨m1, e1, g1, _, g3, g4⟩ := hI
  obtain ⟨rfl, rfl⟩ : m1 = m ∧ e1 = e := by simpa using g1.symm
  obtain ⟨m2, e2, k1, _, k3, k4⟩ := hI'
  obtain ⟨rfl, rfl⟩ : m2 = m' ∧ e2 = e' := by simpa using k1.symm
  have hSB := SB_le
  have hI : Is (some (m1, e1)) 2000 (m1 * 2 ^ (e1 + (2000 : Nat)).toNat) := ⟨m1, e1, rfl, hn, g3, rfl⟩
  have hI' : Is (some (m2, e2)) 2000 (m2 * 2 ^ (e2 + (2000 : Nat)).toNat) := ⟨m2, e2, rfl, hn', k3, rfl⟩
  rw [g4] at hN
  rw [k4] at hN'
  have hL := is_mk (y := y) (f := f) (S := T8) (B := B) hf (by omega) (by omega) hy
  have hLb := abs_mul_lt hy hN'
  have hM := hL.mul hI' (by omega) hLb (by omega)
  have hA := hI.up T8
  have hSS : 2000 + T8 = T10 := by omega
  have hSS2 : T8 + 2000 = T10 := by omega
  rw [hSS] at hA
  rw [hSS2] at hM
  refine ⟨is_ne hL, is_ne hM, ?_⟩
  rw [is_cmp hM hA (by omega), heq]
  -- common powers of two
  obtain ⟨t2, ht2⟩ : ∃ t2 : Nat, (t2 : Int) = e2 + 2000 := ⟨(e2 + 2000).toNat, by omega⟩
  obtain ⟨t1, ht1⟩ : ∃ t1 : Nat, (t1 : Int) = e1 + 2000 := ⟨(e1 + 2000).toNat, by omega⟩
  obtain ⟨t3, ht3⟩ : ∃ t3 : Nat, (t3 : Int) = e1 - e2 - sh + T8 := ⟨(e1 - e2 - sh + T8).toNat, by omega⟩
  rw [show (e2 + (2000 : Nat)).toNat = t2 by omega, show (e1 + (2000 : Nat)).toNat = t1 by omega, show (e1 - e2 - sh + T8).toNat = t3 by omega]
  have hx : c * 2 ^ t3 * (m2 * 2 ^ t2) = c * m2 * 2 ^ (t3 + t2) := by
    rw [Int.pow_add, Int.mul_assoc, Int.mul_left_comm (2 ^ t3) m2, ← Int.mul_assoc, ← Int.mul_assoc]
  have hyy : m1 * 2 ^ t1 * 2 ^ T8 = m1 * 2 ^ (t1 + T8) := by rw [Int.pow_add, Int.mul_assoc]
  rw [hx, hyy]
  unfold shU shV
  by_cases hsh : 0 ≤ sh
  · rw [if_pos hsh, if_pos hsh, Int.mul_one]
    obtain ⟨s, hs3⟩ : ∃ s : Nat, (s : Int) = sh := ⟨sh.toNat, by omega⟩
    rw [show sh.toNat = s by omega, show t1 + T8 = s + (t3 + t2) by omega, Int.pow_add 2 s, ← Int.mul_assoc]
    exact sgn3_pos_scale (two_pos _)
  · rw [if_neg hsh, if_neg hsh, Int.mul_one]
    obtain ⟨s, hs3⟩ : ∃ s : Nat, (s : Int) = -sh := ⟨(-sh).toNat, by omega⟩
    rw [show (-sh).toNat = s by omega, show t3 + t2 = s + (t1 + T8) by omega, Int.pow_add 2 s, ← Int.mul_assoc]
    exact sgn3_pos_scale (two_pos _)

/-- what the statement compares -/
structure QuoIs (a b lo hi : Dy) (p x y : Int) : Prop where
  lon : lo ≠ none
  hin : hi ≠ none
  lob : (blen (dm lo).natAbs : Int) ≤ p
  hib : (blen (dm hi).natAbs : Int) ≤ p
  lom : dmul lo b ≠ none
  him : dmul hi b ≠ none
  cx : sgn3 (sc (dmul lo b)) (sc a) = x
  cy : sgn3 (sc a) (sc (dmul hi b)) = y
  xle : ¬ 0 < x
  yle : ¬ 0 < y
  same : lo = hi ↔ x = 0
  both : x = 0 ↔ y = 0

theorem sgn3_flip (x y : Int) : sgn3 x y = - sgn3 y x := by unfold sgn3; split <;> (try split) <;> (try split) <;> omega

theorem dquo_drd {m e m' e' p : Int} (mode : Int) (h0 : m' ≠ 0) (h1 : 1 ≤ p) (h2 : p ≤ 80) : dquo (some (m, e)) (some (m', e')) p mode = drd (qsgn m m' (qtail m m' p)) (e - e' - qsh m m' p - 1) p.toNat mode := by
  show (if 1 ≤ p ∧ p ≤ 4096 ∧ m' ≠ 0 then _ else none) = _
  rw [if_pos ⟨h1, by omega, h0⟩]

theorem quo_zero {e m' e' p : Int} (he : e = 0) (hm : m' ≠ 0) (h1 : 1 ≤ p) (h2 : p ≤ 80) : QuoIs (some (0, e)) (some (m', e')) (dquo (some (0, e)) (some (m', e')) p 1) (dquo (some (0, e)) (some (m', e')) p 2) p 0 0 := by
  subst he
  have hq0 : 0 ≤ qsh 0 m' p := by
    have hq : qsh 0 m' p = p + 1 + (blen m'.natAbs : Int) - blen (0 : Int).natAbs := rfl
    rw [hq, show blen (0 : Int).natAbs = 0 by simp [blen]]
    omega
  have hT : qtail 0 m' p = 0 := by
    unfold qtail shf
    rw [if_pos hq0, decide_eq_false (by omega)]
    simp [sgn3]
  have hd : ∀ mode, dquo (some (0, 0)) (some (m', e')) p mode = some (0, 0) := by
    intro mode
    rw [dquo_drd mode hm h1 h2, hT]
    have : qsgn 0 m' 0 = 0 := by unfold qsgn; split <;> rfl
    rw [this]
    unfold drd
    rw [if_pos (by simp [blen]), dmk_zero]
  rw [hd, hd]
  have hmu : dmul (some (0, 0)) (some (m', e')) = some (0, 0) := by show dmk (0 * m') (0 + e') = _; rw [Int.zero_mul, dmk_zero]
  exact ⟨by simp, by simp, by simp [dm, blen]; omega, by simp [dm, blen]; omega, by rw [hmu]; simp, by rw [hmu]; simp, by rw [hmu]; exact sgn3_eq rfl, by rw [hmu]; exact sgn3_eq rfl, by omega, by omega, by simp, by simp⟩

/-- normalizing leaves no more bits than there are without the zeros behind -/
theorem blen_dmk {x e : Int} {p : Nat} (h : blen x.natAbs ≤ p + tzf x.natAbs) : blen (dm (dmk x e)).natAbs ≤ p := by
  unfold dmk
  by_cases h0 : x = 0
  · rw [if_pos h0]; simp [dm, blen]
  · rw [if_neg h0]
    split
    · simp [dm, blen]
    · obtain ⟨m, h1, h2, h3⟩ := odd_part h0
      show blen (x / 2 ^ tzf x.natAbs).natAbs ≤ p
      rw [h3]
      have hb : blen x.natAbs = blen m.natAbs + tzf x.natAbs := by
        conv => lhs; rw [h1]
        rw [natAbs_shift, blen_mul (by omega)]
      omega

theorem quo_is {a b : Dy} {p : Int} (ha : Slim a) (hb : Slim b) (hbp : 0 < dm b) (h1 : 1 ≤ p) (h2 : p ≤ 80) : ∃ x y, QuoIs a b (dquo a b p 1) (dquo a b p 2) p x y := by
  obtain ⟨m, e, rfl, hn, hr⟩ := slim_range ha
  obtain ⟨m', e', rfl, hn', hr'⟩ := slim_range hb
  have hD : 0 < m' := hbp
  have hr' : -2000 ≤ e' ∧ e' ≤ 2640 := by rcases hr' with ⟨h, _⟩ | ⟨_, h⟩ <;> omega
  by_cases hm : m = 0
  · subst hm
    have he : e = 0 := by rcases hr with ⟨_, h⟩ | ⟨h, _⟩ <;> omega
    exact ⟨0, 0, quo_zero he (by omega) h1 h2⟩
  · have hr : -2000 ≤ e ∧ e ≤ 2640 := by rcases hr with ⟨h, _⟩ | ⟨_, h⟩ <;> omega
    have hbl : blen m.natAbs ≤ 640 := ha.1
    have hbl' : blen m'.natAbs ≤ 640 := hb.1
    have hodd : m.natAbs % 2 = 1 := by
      rcases hn with ⟨h, _⟩ | ⟨h, _⟩
      · exact absurd h hm
      · exact h
    have hsh : qsh m m' p = p + 1 + (blen m'.natAbs : Int) - blen m.natAbs := rfl
    have hqt : qtail m m' p = qtail (m.natAbs : Int) m' p := by unfold qtail qsh; rw [Int.natAbs_natCast]
    have hqs : qsh (m.natAbs : Int) m' p = qsh m m' p := by unfold qsh; rw [Int.natAbs_natCast]
    have hM : 0 < (m.natAbs : Int) := by omega
    have hMo : (m.natAbs : Int) % 2 = 1 := by omega
    obtain ⟨K1, K2⟩ := quo_key (p := p) hM hMo hD
    have big := qtail_big hM hMo hD h1
    have small := qtail_small hM hMo hD h1
    rw [hqs] at K1 K2
    rw [← hqt] at K1 K2 big small
    have hdq := fun mode => dquo_drd (m := m) (e := e) (e' := e') mode (show m' ≠ 0 by omega) h1 h2
    have s1 : -1000 ≤ qsh m m' p := by omega
    have s2 : qsh m m' p ≤ 1000 := by omega
    have cmpL := fun y f c T8 T10 h8 h10 B hB hf hy heq => quo_cmp (m := m) (e := e) (m' := m') (e' := e') (y := y) (f := f) (c := c) (sh := qsh m m' p) (T8 := T8) (T10 := T10) h8 h10 (B := B) hB hn hn' ha hb hr.1 hr'.1 hr'.2 s1 s2 hf hy heq
    have hU : 0 < shU (qsh m m' p) := by unfold shU; split; omega; exact two_pos _
    rw [hdq, hdq]
    generalize qsh m m' p = sh at *
    generalize qtail m m' p = T at *
    clear hdq hqt hqs hM hMo
    obtain ⟨x0, hx0⟩ : ∃ x0, qsgn m m' T = x0 := ⟨_, rfl⟩
    rw [hx0]
    have hT0 : 0 < T := Int.lt_of_lt_of_le (two_pos _) big
    have hxa : x0.natAbs = T.natAbs := by rw [← hx0]; unfold qsgn; split <;> omega
    have key : (∀ c : Int, 2 * c ≤ x0 ↔ c * m' * shU sh ≤ m * shV sh) ∧ (∀ c : Int, x0 ≤ 2 * c ↔ m * shV sh ≤ c * m' * shU sh) := by
      by_cases hneg : m < 0
      · have e1 : x0 = -T := by rw [← hx0]; unfold qsgn; rw [decide_eq_true hneg, decide_eq_false (by omega)]; rfl
        have e2 : (m.natAbs : Int) = -m := by omega
        rw [e2] at K1 K2
        have e3 : ∀ c : Int, -c * m' * shU sh = -(c * m' * shU sh) := fun c => by rw [Int.neg_mul, Int.neg_mul]
        have e4 : -m * shV sh = -(m * shV sh) := by rw [Int.neg_mul]
        refine ⟨fun c => ?_, fun c => ?_⟩
        · have := K2 (-c)
          rw [e3, e4] at this
          omega
        · have := K1 (-c)
          rw [e3, e4] at this
          omega
      · have e1 : x0 = T := by rw [← hx0]; unfold qsgn; rw [decide_eq_false hneg, decide_eq_false (by omega)]; rfl
        have e2 : (m.natAbs : Int) = m := by omega
        rw [e2] at K1 K2
        rw [e1]
        exact ⟨K1, K2⟩
    clear K1 K2 hx0
    obtain ⟨k1, k2⟩ := key
    obtain ⟨P, hP⟩ : ∃ P : Nat, p.toNat = P := ⟨_, rfl⟩
    rw [hP] at big small ⊢
    have hbT : blen x0.natAbs ≤ P + 4 := by
      rw [hxa]
      refine blen_le_of_lt ?_
      have e1 : ((2 ^ (P + 3) : Nat) : Int) = 2 ^ (P + 3) := by rw [Int.natCast_pow]; rfl
      have e2 : 2 ^ (P + 4) = 2 * 2 ^ (P + 3) := by rw [Nat.pow_succ (n := 2) (m := P + 3), Nat.mul_comm]
      rw [← e1] at small
      have := Nat.pow_pos (n := P + 3) (show 0 < 2 by omega)
      omega
    have hbT2 : P + 2 ≤ blen x0.natAbs := by
      rw [hxa]
      obtain ⟨l, hl, _, hl2⟩ := blen_spec (show T.natAbs ≠ 0 by omega)
      rw [hl]
      have e1 : ((2 ^ (P + 1) : Nat) : Int) = 2 ^ (P + 1) := by rw [Int.natCast_pow]; rfl
      rw [← e1] at big
      have h5 : 2 ^ (P + 1) < 2 ^ (l + 1) := by omega
      have := (Nat.pow_lt_pow_iff_right (show 1 < 2 by omega)).1 h5
      omega
    obtain ⟨T8, h8⟩ : ∃ T8 : Nat, T8 = 8000 := ⟨_, rfl⟩
    obtain ⟨T10, h10⟩ : ∃ T10 : Nat, T10 = 10000 := ⟨_, rfl⟩
    obtain ⟨B, hB⟩ : ∃ B : Nat, B = 13400 := ⟨_, rfl⟩
    have cmpL := fun y f c => cmpL y f c T8 T10 h8 h10 B hB
    rcases drd_cases x0 (e - e' - sh - 1) P 1 with ⟨hx, d1⟩ | ⟨k, hk, htz, hno, d1⟩
    · -- exact
      have d2 : drd x0 (e - e' - sh - 1) P 2 = dmk x0 (e - e' - sh - 1) := by unfold drd; rw [if_pos hx]
      rw [d1, d2]
      have htz : 2 ≤ tzf x0.natAbs := by omega
      obtain ⟨w, hw1, hw2, _⟩ := odd_part (show x0 ≠ 0 by omega)
      obtain ⟨t, ht⟩ : ∃ t, tzf x0.natAbs = t + 1 := ⟨tzf x0.natAbs - 1, by omega⟩
      rw [ht, Int.pow_succ, ← Int.mul_assoc, Int.mul_comm (w * 2 ^ t) 2] at hw1
      generalize w * 2 ^ t = c at *
      have q1 := (k1 c).1 (by omega)
      have q2 := (k2 c).1 (by omega)
      obtain ⟨g, hg⟩ : ∃ g : Nat, (g : Int) = e - e' - sh - 1 + T8 := ⟨(e - e' - sh - 1 + T8).toNat, by omega⟩
      have hb2 : (x0 * 2 ^ (e - e' - sh - 1 + (T8 : Int)).toNat).natAbs < 2 ^ B := by
        have h5 : x0.natAbs < 2 ^ (P + 4) := Nat.lt_of_lt_of_le (blen_lt _) (Nat.pow_le_pow_right (by omega) hbT)
        have h6 := pow_bound h5 (e := (e - e' - sh - 1 + (T8 : Int)).toNat) (b := B - (P + 4)) (by omega)
        rwa [show P + 4 + (B - (P + 4)) = B by omega] at h6
      obtain ⟨n1, n2, n3⟩ := cmpL x0 (e - e' - sh - 1) c (by omega) hb2 (by
        rw [show (e - e' - sh - 1 + (T8 : Int)).toNat = g by omega, show (e - e' - sh + (T8 : Int)).toNat = g + 1 by omega, hw1, Int.pow_succ, Int.mul_comm (2 ^ g) 2, ← Int.mul_assoc, Int.mul_comm 2 c])
      have n4 : sgn3 (c * m' * shU sh) (m * shV sh) = 0 := sgn3_eq (Int.le_antisymm q1 q2)
      rw [n4] at n3
      have hb3 := blen_dmk (e := e - e' - sh - 1) hx
      refine ⟨0, 0, n1, n1, by omega, by omega, n2, n2, n3, by rw [sgn3_flip, n3]; rfl, by omega, by omega, by simp, by simp⟩
    · -- rounded
      have d2 : drd x0 (e - e' - sh - 1) P 2 = dmk (x0 / 2 ^ (k + 1) + if rup x0 k 2 then 1 else 0) (e - e' - sh - 1 + ((k + 1 : Nat) : Int)) := by
        rcases drd_cases x0 (e - e' - sh - 1) P 2 with ⟨hx, _⟩ | ⟨k', hk', _, _, d2⟩
        · exact absurd hx hno
        · obtain rfl : k' = k := by omega
          exact d2
      have r1 : rup x0 k 1 = false := rfl
      have r2 : rup x0 k 2 = true := rfl
      rw [r1] at d1
      rw [r2] at d2
      simp only [Bool.false_eq_true, if_false, Int.add_zero] at d1
      simp only [if_true] at d2
      have har := around_of hk htz
      rw [d1, d2]
      obtain ⟨z1, z2⟩ := har.sizes
      have heq := har.eq
      have hpos := har.pos
      have hlt := har.lt
      generalize x0 / 2 ^ (k + 1) = q at *
      generalize x0 % 2 ^ (k + 1) = r at *
      rw [Int.pow_succ, ← Int.mul_assoc] at heq
      rw [Int.pow_succ] at hlt
      have hk3 : k ≤ 3 := by omega
      have c1 : ¬ m * shV sh ≤ q * 2 ^ k * m' * shU sh := by rw [← k2]; omega
      have e5 : (q + 1) * 2 ^ k = q * 2 ^ k + 2 ^ k := by rw [Int.add_mul, Int.one_mul]
      have c2 : ¬ (q + 1) * 2 ^ k * m' * shU sh ≤ m * shV sh := by rw [← k1, e5]; omega
      obtain ⟨g, hg⟩ : ∃ g : Nat, (g : Int) = e - e' - sh + T8 := ⟨(e - e' - sh + T8).toNat, by omega⟩
      have hf : (e - e' - sh - 1 + ((k + 1 : Nat) : Int) + (T8 : Int)).toNat = g + k := by omega
      have hbq : ∀ y : Int, y.natAbs ≤ 2 ^ P → (y * 2 ^ (e - e' - sh - 1 + ((k + 1 : Nat) : Int) + (T8 : Int)).toNat).natAbs < 2 ^ B := by
        intro y hy
        have h5 : y.natAbs < 2 ^ (P + 1) := by rw [Nat.pow_succ]; have := Nat.pow_pos (n := P) (show 0 < 2 by omega); omega
        have h6 := pow_bound h5 (e := (e - e' - sh - 1 + ((k + 1 : Nat) : Int) + (T8 : Int)).toNat) (b := B - (P + 1)) (by omega)
        rwa [show P + 1 + (B - (P + 1)) = B by omega] at h6
      have hye : ∀ y : Int, y * 2 ^ (e - e' - sh - 1 + ((k + 1 : Nat) : Int) + (T8 : Int)).toNat = y * 2 ^ k * 2 ^ (e - e' - sh + (T8 : Int)).toNat := by
        intro y
        rw [hf, show (e - e' - sh + (T8 : Int)).toNat = g by omega, Int.pow_add, Int.mul_comm (2 ^ g), Int.mul_assoc]
      obtain ⟨n1, n2, n3⟩ := cmpL q (e - e' - sh - 1 + ((k + 1 : Nat) : Int)) (q * 2 ^ k) (by omega) (hbq q z1) (hye q)
      obtain ⟨v1, v2, v3⟩ := cmpL (q + 1) (e - e' - sh - 1 + ((k + 1 : Nat) : Int)) ((q + 1) * 2 ^ k) (by omega) (hbq (q + 1) z2) (hye (q + 1))
      have n4 : sgn3 (q * 2 ^ k * m' * shU sh) (m * shV sh) = -1 := sgn3_is_lt (by omega)
      have v4 : sgn3 ((q + 1) * 2 ^ k * m' * shU sh) (m * shV sh) = 1 := sgn3_gt (by omega)
      rw [n4] at n3
      rw [v4] at v3
      have hb1 := blen_odd (show 1 ≤ P by omega) z1 (e - e' - sh - 1 + ((k + 1 : Nat) : Int))
      have hb2 := blen_odd (show 1 ≤ P by omega) z2 (e - e' - sh - 1 + ((k + 1 : Nat) : Int))
      refine ⟨-1, -1, n1, v1, by omega, by omega, n2, v2, n3, by rw [sgn3_flip, v3], by omega, by omega, ?_, by simp⟩
      constructor
      · intro hlh
        rw [hlh, v3] at n3
        omega
      · intro h; omega
end Go.Proofs.YtjohpdobnedilaaGreatDoor
