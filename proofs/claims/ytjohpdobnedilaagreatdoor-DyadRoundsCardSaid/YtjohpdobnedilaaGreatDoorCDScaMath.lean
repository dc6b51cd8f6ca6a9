/- Scaling, flooring and the logarithm, as plain facts of dyads. No program stands here. -/
import Derived.Test.YtjohpdobnedilaaGreatDoorGp
namespace Go.Proofs.YtjohpdobnedilaaGreatDoor

theorem slim_range {d : Dy} (h : Slim d) : ∃ m e, d = some (m, e) ∧ Nd d ∧ (m = 0 ∧ e = 0 ∨ m ≠ 0 ∧ -2000 ≤ e ∧ e ≤ 2640) := by
  obtain ⟨hb, N, ⟨m, e, rfl, hn, he, hN⟩, hlt⟩ := h
  refine ⟨m, e, rfl, hn, ?_⟩
  by_cases hm : m = 0
  · left
    rcases hn with h | h
    · exact h
    · obtain ⟨h1, _⟩ := h; rw [hm] at h1; simp at h1
  · right
    refine ⟨hm, by omega, ?_⟩
    have h1 : 2 ^ (e + 2000).toNat ≤ N.natAbs := by
      rw [hN, natAbs_shift]
      exact Nat.le_mul_of_pos_left _ (by omega)
    have h2 : 2 ^ (e + 2000).toNat < 2 ^ SB := Nat.lt_of_le_of_lt h1 hlt
    have h3 := (Nat.pow_lt_pow_iff_right (show 1 < 2 by omega)).1 h2
    unfold SB at h3
    omega

theorem scale_back {d : Dy} {n : Int} (h : Slim d) (h0 : -2000 ≤ n) (h1 : n ≤ 2000) : dscale (dscale d n) (-n) = d := by
  obtain ⟨hb, -⟩ := id h
  obtain ⟨m, e, rfl, hn, hc⟩ := slim_range h
  have hb : blen m.natAbs ≤ 640 := hb
  rcases hc with ⟨rfl, rfl⟩ | ⟨hm, e0, e1⟩
  · show dscale (dmk 0 _) (-n) = _
    rw [dmk_zero]
    exact dmk_zero _
  · have hn2 : Nd (some (m, e + n)) := by
      rcases hn with h | h
      · exact absurd h.1 hm
      · right; obtain ⟨p1, p2, p3⟩ := h; exact ⟨p1, by omega, by omega⟩
    show dscale (dmk m (e + max (-131072) (min n 131072))) (-n) = _
    rw [show e + max (-131072) (min n 131072) = e + n by omega, dmk_norm hn2]
    show dmk m (e + n + max (-131072) (min (-n) 131072)) = _
    rw [show e + n + max (-131072) (min (-n) 131072) = e by omega, dmk_norm hn]

theorem floor_is {d : Dy} {N : Int} (h : Is d 2000 N) : dfloor d = N / 2 ^ 2000 := by
  unfold dfloor
  rw [sc_is h (by omega), show (2 : Int) ^ 65536 = 2 ^ 2000 * 2 ^ (65536 - 2000) by rw [← Int.pow_add], Int.mul_ediv_mul_of_pos_left _ _ (two_pos _)]

theorem slim_floor {d : Dy} (h : Slim d) : (dfloor d).natAbs < 2 ^ SB ∧ sgn3 (dm (dsub d (dmk (dfloor d) 0))) 0 ≠ -1 ∧ dsub d (dmk (dfloor d) 0) ≠ none ∧ sgn3 (sc (dsub d (dmk (dfloor d) 0))) (sc (dmk 1 0)) = -1 := by
  obtain ⟨hb, N, hI, hlt⟩ := id h
  rw [floor_is hI]
  have hp := two_pos 2000
  obtain ⟨T, hT⟩ : ∃ T : Nat, T = 2000 := ⟨_, rfl⟩
  rw [← hT] at hp ⊢
  obtain ⟨P, hP⟩ : ∃ P : Int, (2 : Int) ^ T = P := ⟨_, rfl⟩
  rw [hP] at hp ⊢
  have hd : P * (N / P) + N % P = N := by rw [Int.emod_def]; omega
  have hm0 := Int.emod_nonneg N (Int.ne_of_gt hp)
  have hm1 := Int.emod_lt_of_pos N hp
  obtain ⟨f, hf⟩ : ∃ f, N / P = f := ⟨_, rfl⟩
  obtain ⟨r, hr⟩ : ∃ r, N % P = r := ⟨_, rfl⟩
  rw [hf, hr] at hd
  rw [hr] at hm0 hm1
  rw [hf]
  have hP1 : P.natAbs = 2 ^ T := by rw [← hP, Int.natAbs_pow, show (2 : Int).natAbs = 2 from rfl]
  have hPB : P.natAbs < 2 ^ SB := by rw [hP1]; exact (Nat.pow_lt_pow_iff_right (by omega)).2 (by unfold SB; omega)
  have hfa : f.natAbs ≤ N.natAbs := by rw [← hf]; exact Int.natAbs_ediv_le_natAbs _ _
  have hfP : (P * f).natAbs < 2 ^ (SB + 1) := by
    have e1 : P * f = N + -r := by omega
    rw [e1]
    exact abs_add_lt hlt (by omega)
  have i1 : Is (dmk f 0) 2000 (f * P) := by
    have := is_mk (y := f) (f := 0) (S := 2000) (B := SB + 1) (by omega) (by omega) (by unfold SB; omega) (by
      rw [show ((0 : Int) + (2000 : Nat)).toNat = T by omega, hP, Int.mul_comm]; exact hfP)
    rw [show ((0 : Int) + (2000 : Nat)).toNat = T by omega, hP] at this
    exact this
  have i2 : Is (dsub d (dmk f 0)) 2000 r := by
    have := hI.add i1.neg (by omega) (B := SB) (by
      have : N + -(f * P) = r := by rw [Int.mul_comm]; omega
      rw [this]; omega) (by unfold SB; omega)
    rw [show N + -(f * P) = r by rw [Int.mul_comm]; omega] at this
    exact this
  have i3 : Is (dmk 1 0) 2000 P := by
    have := is_mk (y := 1) (f := 0) (S := 2000) (B := SB) (by omega) (by omega) (by unfold SB; omega) (by
      rw [show ((0 : Int) + (2000 : Nat)).toNat = T by omega, hP, Int.one_mul]; exact hPB)
    rw [show ((0 : Int) + (2000 : Nat)).toNat = T by omega, hP, Int.one_mul] at this
    exact this
  refine ⟨Nat.lt_of_le_of_lt hfa hlt, ?_, ?_, ?_⟩
  · obtain ⟨m, e, hme, -, hs⟩ := i2.zero
    rw [hme]
    show sgn3 m 0 ≠ -1
    unfold sgn3
    have : ¬ m < 0 := fun h => by have := hs.1 h; omega
    rw [if_neg this]
    split <;> omega
  · obtain ⟨m, e, hme, -⟩ := i2
    rw [hme]; simp
  · rw [is_cmp i2 i3 (by omega)]
    unfold sgn3
    rw [if_pos hm1]

theorem slim_log {d : Dy} (h : Slim d) (h0 : dm d ≠ 0) : -2000 ≤ dtop d - 1 ∧ dtop d ≤ 4000 ∧
    dscale (dmk 1 0) (dtop d - 1) ≠ none ∧ dscale (dmk 1 0) (dtop d - 1 + 1) ≠ none ∧ dabs d ≠ none ∧
    sgn3 (sc (dscale (dmk 1 0) (dtop d - 1))) (sc (dabs d)) ≠ 1 ∧ sgn3 (sc (dabs d)) (sc (dscale (dmk 1 0) (dtop d - 1 + 1))) = -1 := by
  obtain ⟨hb, N, hI, hlt⟩ := id h
  obtain ⟨m, e, hd, hn, hc⟩ := slim_range h
  subst hd
  have hb : blen m.natAbs ≤ 640 := hb
  have hm : m ≠ 0 := h0
  obtain ⟨l, hl1, hl2, hl3⟩ := blen_spec (show m.natAbs ≠ 0 by omega)
  have he : -2000 ≤ e ∧ e ≤ 2640 := by omega
  obtain ⟨m', e', hme, _, he2, hN⟩ := id hI
  obtain ⟨rfl, rfl⟩ : m = m' ∧ e = e' := by simpa using hme
  have ht : dtop (some (m, e)) - 1 = e + l := by show e + (blen m.natAbs : Int) - 1 = _; rw [hl1]; push_cast; omega
  rw [ht]
  have hone : ∀ k : Int, -2000 ≤ k → k ≤ 4000 → Is (dscale (dmk 1 0) k) 2000 (2 ^ (k + 2000).toNat) := by
    intro k k0 k1
    rw [dmk_norm (Or.inr ⟨by decide, by decide, by decide⟩ : Nd (some (1, 0)))]
    show Is (dmk 1 (0 + max (-131072) (min k 131072))) 2000 _
    rw [show 0 + max (-131072) (min k 131072) = k by omega]
    have := is_mk (y := 1) (f := k) (S := 2000) (B := SB + 2000) (by omega) (by omega) (by unfold SB; omega) (by
      rw [Int.one_mul, Int.natAbs_pow, show (2 : Int).natAbs = 2 from rfl]
      exact (Nat.pow_lt_pow_iff_right (by omega)).2 (by unfold SB; omega))
    rwa [Int.one_mul] at this
  have i1 := hone (e + l) (by omega) (by omega)
  have i2 := hone (e + l + 1) (by omega) (by omega)
  have i3 := hI.abs
  have hA : N.natAbs = m.natAbs * 2 ^ (e + 2000).toNat := by rw [hN, natAbs_shift]; rfl
  have hp : 0 < 2 ^ (e + 2000).toNat := Nat.pow_pos (by omega)
  have g1 : (e + l + 2000).toNat = l + (e + 2000).toNat := by omega
  have g2 : (e + l + 1 + 2000).toNat = l + 1 + (e + 2000).toNat := by omega
  have q1 : 2 ^ (e + l + 2000).toNat ≤ N.natAbs := by rw [hA, g1, Nat.pow_add]; exact Nat.mul_le_mul_right _ hl2
  have q2 : N.natAbs < 2 ^ (e + l + 1 + 2000).toNat := by rw [hA, g2, Nat.pow_add]; exact Nat.mul_lt_mul_of_pos_right hl3 hp
  have c1 : ((2 ^ (e + l + 2000).toNat : Nat) : Int) = 2 ^ (e + l + 2000).toNat := by push_cast; rfl
  have c2 : ((2 ^ (e + l + 1 + 2000).toNat : Nat) : Int) = 2 ^ (e + l + 1 + 2000).toNat := by push_cast; rfl
  refine ⟨by omega, by omega, ?_, ?_, ?_, ?_, ?_⟩
  · obtain ⟨_, _, h, _⟩ := i1; rw [h]; simp
  · obtain ⟨_, _, h, _⟩ := i2; rw [h]; simp
  · simp [dabs]
  · rw [is_cmp i1 i3 (by omega), ← c1]
    unfold sgn3
    split
    · omega
    · split <;> omega
  · rw [is_cmp i3 i2 (by omega), ← c2]
    unfold sgn3
    rw [if_pos (by omega)]
end Go.Proofs.YtjohpdobnedilaaGreatDoor
