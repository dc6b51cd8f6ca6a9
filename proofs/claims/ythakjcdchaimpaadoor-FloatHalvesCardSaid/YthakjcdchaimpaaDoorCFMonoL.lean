/- FloatMonotone returns true, from what its callees do. -/
import Derived.Test.YthakjcdchaimpaaDoorCFLaw
namespace Go.Proofs.YthakjcdchaimpaaDoor
open Go.RowKit

/-- what comparing two dyads gives -/
def DcmpIs (d d' : Dy) (c : Int) (ok : Bool) : Prop := (d = none ∨ d' = none) ∧ c = 0 ∧ ok = false ∨ d ≠ none ∧ d' ≠ none ∧ c = sgn3 (sc d) (sc d') ∧ ok = true
theorem dcmpIs_any (d d' : Dy) : ∃ c ok, DcmpIs d d' c ok := by
  cases d with
  | none => exact ⟨0, false, Or.inl ⟨Or.inl rfl, rfl, rfl⟩⟩
  | some p => cases d' with
    | none => exact ⟨0, false, Or.inl ⟨Or.inr rfl, rfl, rfl⟩⟩
    | some q => exact ⟨_, true, Or.inr ⟨by simp, by simp, rfl, rfl⟩⟩
theorem dcmp_at {u v : Value} {d d' : Dy} {w : World} (hu : Dg w u d) (hv : Dg w v d') (hT : Table w) {c : Int} {ok : Bool} (h : DcmpIs d d' c ok) :
    Calls Tryd.prog 11 #[u, v] w fun e w' => e = .returned (.tuple #[.int .i64 c, .bool ok]) ∧ Ext w w' :=
  (dcmp_any u v d d' w hu hv hT).mono fun e w' ⟨he, hw⟩ => by
    refine ⟨?_, hw⟩
    rcases h with ⟨h0, rfl, rfl⟩ | ⟨h1, h2, rfl, rfl⟩
    · rcases he with ⟨_, he⟩ | ⟨h3, h4, _⟩
      · exact he
      · rcases h0 with h0 | h0
        · exact absurd h0 h3
        · exact absurd h0 h4
    · rcases he with ⟨h0, _⟩ | ⟨_, _, he⟩
      · rcases h0 with h0 | h0
        · exact absurd h0 h1
        · exact absurd h0 h2
      · exact he
theorem fcmpIs_any (a b : Nat) : ∃ s ok, FcmpOut a b s ok ∧ (ok = true → nanB a = false ∧ nanB b = false ∧ s = sgn3 (frank a) (frank b)) := by
  cases ha : nanB a
  · cases hb : nanB b
    · exact ⟨_, true, fcmp_num ha hb rfl, fun _ => ⟨rfl, rfl, rfl⟩⟩
    · exact ⟨0, false, fcmp_nan (Or.inr hb), fun h => by cases h⟩
  · exact ⟨0, false, fcmp_nan (Or.inl ha), fun h => by cases h⟩
theorem sgn3_le {x y : Int} : sgn3 x y ≤ 0 ↔ x ≤ y := by unfold sgn3; split <;> (try split) <;> omega

theorem frd_mono {d d' : Dy} (h1 : d ≠ none) (h2 : d' ≠ none) (hn : Nd d) (hn' : Nd d') (h : sc d ≤ sc d') (mode : Int) : FcmpOut (frdF d mode) (frdF d' mode) (sgn3 (frank (frdF d mode)) (frank (frdF d' mode))) true ∧ sgn3 (frank (frdF d mode)) (frank (frdF d' mode)) ≤ 0 := by
  cases d with
  | none => exact absurd rfl h1
  | some p => cases d' with
    | none => exact absurd rfl h2
    | some q =>
      obtain ⟨m, e⟩ := p
      obtain ⟨m', e'⟩ := q
      have b1 : -65536 ≤ e := (nd_blen hn).2.1
      have b2 : -65536 ≤ e' := (nd_blen hn').2.1
      exact ⟨fcmp_num (rz_facts m e mode).1 (rz_facts m' e' mode).1 rfl, sgn3_le.2 (rz_mono (T := 65536) (by omega) b1 b2 h mode)⟩

end Go.Proofs.YthakjcdchaimpaaDoor
