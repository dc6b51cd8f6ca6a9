/- The roundings of a dyad enclose it, as plain facts over dyads. -/
import Derived.Test.YtijbdfcenbekmaaGreatDoorCFSterb
import Derived.Test.YtijbdfcenbekmaaGreatDoorCFRd
namespace Go.Proofs.YtijbdfcenbekmaaGreatDoor
open Go.RowKit

/-- a float's number against a dyad -/
theorem sc_fdy {f : Nat} (h : finB f = true) : sc (fdy f) = fs f 65536 := by
  rw [sc_is (fdy_is h) (by omega)]
  unfold fs fzs fu
  rw [fz_mag]
  generalize 65536 - 1074 = k
  have hc : ((fz f * 2 ^ k : Nat) : Int) = (fz f : Int) * 2 ^ k := by rw [Int.natCast_mul, Int.natCast_pow]; rfl
  rw [hc]
  cases fneg f
  · rfl
  · simp only [if_true]; rw [Int.neg_mul]
theorem fdy_ne {f : Nat} (h : finB f = true) : fdy f ≠ none := by
  obtain ⟨m, e, h1, _⟩ := fdy_is h
  rw [h1]; simp
theorem fdy_no {f : Nat} (h : finB f = false) : fdy f = none := by unfold fdy; rw [h]; rfl

/-- what the statement compares -/
structure EnclIs (d : Dy) (lo hi near : Nat) (x : Int) (ok : Bool) (y : Int) (is : Bool) : Prop where
  cx : DcmpIs (fdy lo) d x ok
  cy : DcmpIs d (fdy hi) y is
  nlo : nanB lo = false
  nhi : nanB hi = false
  xle : x ≤ 0
  yle : y ≤ 0
  noLo : ok = false → lo = 18442240474082181120
  noHi : is = false → hi = 9218868437227405312
  same : (ok = true ∧ x = 0 ∨ is = true ∧ y = 0) → lo = hi ∧ near = lo
  next : ¬ (ok = true ∧ x = 0 ∨ is = true ∧ y = 0) → FcmpOut (fupF lo) hi 0 true ∧ (near = lo ∨ near = hi)

theorem sgn3_zero_iff {x y : Int} : sgn3 x y = 0 ↔ x = y := by unfold sgn3; split <;> (try split) <;> omega

theorem encl_is {m e : Int} (hn : Nd (some (m, e))) (hm : m ≠ 0) : ∃ x ok y is, EnclIs (some (m, e)) (frdF (some (m, e)) 1) (frdF (some (m, e)) 2) (frdF (some (m, e)) 0) x ok y is := by
  have he : -65536 ≤ e := (nd_blen hn).2.1
  have en := rnd_enc (T := 65536) (S := m) (e := e) hm (by omega) he
  have hf : ∀ mode, frdF (some (m, e)) mode = rnd m e mode := fun mode => by show rz m e mode = _; unfold rz; rw [if_neg hm]
  rw [hf, hf, hf]
  have r1 := rnd_facts m e 1
  have r2 := rnd_facts m e 2
  generalize rnd m e 1 = lo at *
  generalize rnd m e 2 = hi at *
  generalize rnd m e 0 = near at *
  have hsc : sc (some (m, e)) = vs m e 65536 := rfl
  obtain ⟨x, ok, h1, h2, h3, h4⟩ : ∃ x ok, DcmpIs (fdy lo) (some (m, e)) x ok ∧ x ≤ 0 ∧ (ok = false → lo = 18442240474082181120) ∧ (ok = true ∧ x = 0 ↔ finB lo = true ∧ fs lo 65536 = vs m e 65536) := by
    cases hl : finB lo
    · exact ⟨0, false, Or.inl ⟨Or.inl (fdy_no hl), rfl, rfl⟩, by omega, fun _ => en.loi hl, by simp⟩
    · refine ⟨_, true, Or.inr ⟨fdy_ne hl, by simp, rfl, rfl⟩, ?_, (fun h => by cases h), ?_⟩
      · rw [sc_fdy hl, hsc]; exact sgn3_le.2 (en.fl hl)
      · rw [sc_fdy hl, hsc, sgn3_zero_iff]
  obtain ⟨y, is, g1, g2, g3, g4⟩ : ∃ y is, DcmpIs (some (m, e)) (fdy hi) y is ∧ y ≤ 0 ∧ (is = false → hi = 9218868437227405312) ∧ (is = true ∧ y = 0 ↔ finB hi = true ∧ fs hi 65536 = vs m e 65536) := by
    cases hl : finB hi
    · exact ⟨0, false, Or.inl ⟨Or.inr (fdy_no hl), rfl, rfl⟩, by omega, fun _ => en.hii hl, by simp⟩
    · refine ⟨_, true, Or.inr ⟨by simp, fdy_ne hl, rfl, rfl⟩, ?_, (fun h => by cases h), ?_⟩
      · rw [sc_fdy hl, hsc]; exact sgn3_le.2 (en.fh hl)
      · rw [sc_fdy hl, hsc, sgn3_zero_iff]
        exact ⟨fun h => ⟨rfl, h.2.symm⟩, fun h => ⟨rfl, h.2.symm⟩⟩
  refine ⟨x, ok, y, is, h1, g1, r1.1, r2.1, h2, g2, h3, g3, ?_, ?_⟩
  · rw [h4, g4]; exact en.same
  · rw [h4, g4]
    intro h
    obtain ⟨k1, k2⟩ := en.next (fun a b => h (Or.inl ⟨a, b⟩)) (fun a b => h (Or.inr ⟨a, b⟩))
    refine ⟨?_, k2⟩
    have l1 := (rank_le_inf r2.1).2
    have l2 : lo ≠ 9218868437227405312 := by
      intro h0
      rw [h0, show frank 9218868437227405312 = 9218868437227405312 by decide] at k1
      omega
    obtain ⟨u1, u2⟩ := up_rank r1.2.1 r1.1 l2
    exact fcmp_num u1 r2.1 (by rw [u2, k1]; exact sgn3_zero_iff.2 rfl)
end Go.Proofs.YtijbdfcenbekmaaGreatDoor
