/- FloatSterbenz returns true, from what its callees do. -/
import Derived.Test.YthakjcdchaimpaaDoorCFMonoL
import Derived.Test.YthakjcdchaimpaaDoorCFOf
namespace Go.Proofs.YthakjcdchaimpaaDoor
open Go.RowKit

theorem fz_bound {f : Nat} (h : finB f = true) : fz f < 2 ^ (52 + low46) := by
  rw [Nat.pow_add, ← fz_inf, ← fz_mag f]
  exact fz_lt (of_decide_eq_true h) (Nat.le_refl _)
theorem low46_le : 52 + low46 = 2098 := rfl
theorem fzs_abs (f : Nat) : (fzs f).natAbs = fz f := by unfold fzs; split <;> omega
theorem fdy_is {f : Nat} (h : finB f = true) : Is (fdy f) 1074 (fzs f) := by
  unfold fdy
  rw [h, if_pos rfl]
  exact Is.of_dmk (S := 1074) (B := 52 + low46) (by omega) (by rw [fzs_abs]; exact fz_bound h) (by rw [low46_le]; omega)
theorem is_double {d : Dy} {N : Int} (h : Is d 1074 N) (hb : N.natAbs < 2 ^ (52 + low46)) : Is (dscale d 1) 1074 (2 * N) := by
  obtain ⟨m, e, h1, h2, h3, h4⟩ := h
  subst h1
  have e1 : (max (-131072 : Int) (min 1 131072)) = 1 := by decide
  have e2 : m * 2 ^ (e + 1 + (1074 : Nat)).toNat = 2 * N := by
    rw [h4, show (e + 1 + (1074 : Nat)).toNat = (e + (1074 : Nat)).toNat + 1 by omega, Int.pow_succ]
    rw [← Int.mul_assoc, Int.mul_comm]
  have h5 := is_mk (y := m) (f := e + 1) (S := 1074) (B := 52 + low46 + 1) (by omega) (by omega) (by rw [low46_le]; omega) (by rw [e2, Nat.pow_succ]; omega)
  rw [e2] at h5
  show Is (dmk m (e + max (-131072) (min 1 131072))) 1074 (2 * N)
  rw [e1]
  exact h5
theorem is_dcmp {d d' : Dy} {N N' : Int} (h : Is d 1074 N) (h' : Is d' 1074 N') : DcmpIs d d' (sgn3 N N') true := by
  have h1 := is_cmp h h' (by omega)
  refine Or.inr ⟨?_, ?_, h1.symm, rfl⟩
  · obtain ⟨m, e, h2, _⟩ := h; rw [h2]; simp
  · obtain ⟨m, e, h2, _⟩ := h'; rw [h2]; simp

/-- what the law's comparisons give -/
theorem sterb_cases (a b : Nat) (mode : Int) : ∃ c1 ok1 c2 ok2, DcmpIs (dscale (fdy (fabsF a)) 1) (fdy (fabsF b)) c1 ok1 ∧ DcmpIs (fdy (fabsF a)) (dscale (fdy (fabsF b)) 1) c2 ok2 ∧
    (ok1 = true → ok2 = true → ¬ c1 < 0 → ¬ 0 < c2 → DcmpIs (fdy (faddF (fabsF a) (fnegF (fabsF b)) mode)) (dsub (fdy (fabsF a)) (fdy (fabsF b))) 0 true) := by
  have hno : ∀ x, finB x = false → fdy (fabsF x) = none := by
    intro x hx
    have h1 : ¬ fmag x < 9218868437227405312 := of_decide_eq_false hx
    have h2 : finB (fabsF x) = false := by
      unfold fabsF
      split
      · decide
      · unfold finB; rw [show fmag (fmag x) = fmag x from Nat.mod_eq_of_lt (fmag_lt x)]; exact hx
    unfold fdy; rw [h2]; rfl
  cases ha : finB a
  · rw [hno a ha]
    exact ⟨0, false, 0, false, Or.inl ⟨Or.inl rfl, rfl, rfl⟩, Or.inl ⟨Or.inl rfl, rfl, rfl⟩, fun h => by cases h⟩
  · cases hb : finB b
    · rw [hno b hb]
      exact ⟨0, false, 0, false, Or.inl ⟨Or.inr rfl, rfl, rfl⟩, Or.inl ⟨Or.inr rfl, rfl, rfl⟩, fun h => by cases h⟩
    · obtain ⟨a1, a2, a3, a4, a5⟩ := fabs_facts ha
      obtain ⟨b1, b2, b3, b4, b5⟩ := fabs_facts hb
      have ia := fdy_is a2
      have ib := fdy_is b2
      have ba := fz_bound a2
      have bb := fz_bound b2
      rw [← fzs_abs] at ba bb
      rw [a4] at ia ba
      rw [b4] at ib bb
      refine ⟨_, _, _, _, is_dcmp (is_double ia ba) ib, is_dcmp ia (is_double ib bb), fun _ _ h1 h2 => ?_⟩
      have g1 : fz b ≤ 2 * fz a := by
        rcases Nat.lt_or_ge (2 * fz a) (fz b) with h | h
        · exfalso; apply h1; unfold sgn3; rw [if_pos (by omega)]; omega
        · exact h
      have g2 : fz a ≤ 2 * fz b := by
        rcases Nat.lt_or_ge (2 * fz b) (fz a) with h | h
        · exfalso; apply h2; unfold sgn3; rw [if_neg (by omega), if_pos (by omega)]; omega
        · exact h
      obtain ⟨s1, s2⟩ := sterbenz mode ha hb g1 g2
      have is := fdy_is s1
      rw [s2] at is
      have hadd : Is (dsub (fdy (fabsF a)) (fdy (fabsF b))) 1074 ((fz a : Int) + -(fz b : Int)) := by
        refine ia.add ib.neg (by omega) (B := 52 + low46) ?_ (by rw [low46_le]; omega)
        omega
      have := is_dcmp is hadd
      rwa [show sgn3 ((fz a : Int) - (fz b : Int)) ((fz a : Int) + -(fz b : Int)) = 0 by unfold sgn3; rw [if_neg (by omega), if_neg (by omega)]] at this

theorem fof_at {f : Nat} {d : Dy} (hf : f < 18446744073709551616) (h : fdy f = d) (w : World) (hT : Table64 w) : Calls Tryd.prog 19 #[.int .u64 (f : Int)] w fun e w' => ∃ v, e = .returned v ∧ Dn w' v d ∧ Ext w w' := by rw [← h]; exact fof_any f hf w hT
theorem fabsF_lt (f : Nat) : fabsF f < 18446744073709551616 := by have := fmag_lt f; unfold fabsF; split <;> omega

end Go.Proofs.YthakjcdchaimpaaDoor
