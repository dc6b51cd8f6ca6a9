/- The order of the floats and their neighbours, as plain facts; float.Cmp. -/
import Derived.Test.YtfgmkeiiidckbaaDoorCFsmall
import Derived.Test.YtfgmkeiiidckbaaDoorGa
import Derived.Test.YtfgmkeiiidckbaaDoorGg
namespace Go.Proofs.YtfgmkeiiidckbaaDoor
open Go.RowKit

theorem nanB_not {f : Nat} (h : nanB f = false) : fmag f ≤ 9218868437227405312 := by
  have := of_decide_eq_false h
  omega
theorem nanB_nan : nanB 9221120237041090560 = true := by decide

/-- the next float's place is the next one -/
theorem up_rank {f : Nat} (hf : f < 18446744073709551616) (hn : nanB f = false) (hi : f ≠ 9218868437227405312) : nanB (fupF f) = false ∧ frank (fupF f) = frank f + 1 := by
  have hp := f_parts hf
  have hm := nanB_not hn
  unfold fupF
  rw [if_neg (by rw [hn]; simp), if_neg hi]
  by_cases hz : zeroB f = true
  · rw [if_pos hz]
    have h0 : fmag f = 0 := of_decide_eq_true hz
    refine ⟨by decide, ?_⟩
    unfold frank
    rw [h0]
    simp [fneg, fmag]
  · rw [if_neg hz]
    have h0 : fmag f ≠ 0 := of_decide_eq_false ((Bool.not_eq_true _).mp hz)
    by_cases hs : fneg f = true
    · rw [if_pos hs]
      rw [hs] at hp
      unfold sgz at hp
      rw [if_pos rfl] at hp
      have e1 : fneg (f - 1) = true := by unfold fneg; simp; omega
      have e2 : fmag (f - 1) = fmag f - 1 := by unfold fmag at *; omega
      refine ⟨decide_eq_false (by omega), ?_⟩
      unfold frank
      rw [e1, hs, e2, if_pos rfl, if_pos rfl]
      omega
    · rw [if_neg hs]
      have hs : fneg f = false := by simpa using hs
      rw [hs] at hp
      unfold sgz at hp
      rw [if_neg (by simp)] at hp
      have e1 : fneg (f + 1) = false := by unfold fneg; simp; omega
      have e2 : fmag (f + 1) = fmag f + 1 := by unfold fmag at *; omega
      refine ⟨decide_eq_false (by omega), ?_⟩
      unfold frank
      rw [e1, hs, e2, if_neg (by simp), if_neg (by simp)]
      omega

theorem neg_rank {f : Nat} (hf : f < 18446744073709551616) (hn : nanB f = false) : nanB (fnegF f) = false ∧ frank (fnegF f) = - frank f ∧ (fnegF f = 9218868437227405312 → frank f = -9218868437227405312) := by
  have hp := f_parts hf
  have hm := nanB_not hn
  have hl := fmag_lt f
  unfold fnegF
  rw [if_neg (by rw [hn]; simp)]
  cases hs : fneg f
  · rw [hs] at hp
    have e1 : fneg (sgz (!false) + fmag f) = true := by unfold fneg sgz; simp
    have e2 : fmag (sgz (!false) + fmag f) = fmag f := by unfold fmag sgz; simp <;> omega
    refine ⟨decide_eq_false (by rw [e2]; omega), ?_, ?_⟩
    · unfold frank; rw [e1, e2, hs]; simp
    · unfold sgz; simp <;> omega
  · rw [hs] at hp
    have e1 : fneg (sgz (!true) + fmag f) = false := by unfold fneg sgz; simp <;> omega
    have e2 : fmag (sgz (!true) + fmag f) = fmag f := by unfold fmag sgz; simp <;> omega
    refine ⟨decide_eq_false (by rw [e2]; omega), ?_, ?_⟩
    · unfold frank; rw [e1, e2, hs]; simp
    · intro h
      unfold frank
      rw [hs, if_pos rfl]
      unfold sgz at h
      simp at h
      omega

theorem down_rank {f : Nat} (hf : f < 18446744073709551616) (hn : nanB f = false) (hi : frank f ≠ -9218868437227405312) : nanB (fdownF f) = false ∧ frank (fdownF f) = frank f - 1 := by
  obtain ⟨a1, a2, a3⟩ := neg_rank hf hn
  obtain ⟨b1, b2⟩ := up_rank (fnegF_lt (f := f)) a1 (fun h => hi (a3 h))
  obtain ⟨c1, c2, -⟩ := neg_rank (fupF_lt (fnegF_lt (f := f))) b1
  refine ⟨c1, ?_⟩
  unfold fdownF
  rw [c2, b2, a2]
  omega

theorem frank_bounds (f : Nat) : -9223372036854775808 < frank f ∧ frank f < 9223372036854775808 := by
  have := fmag_lt f
  unfold frank
  split <;> omega

/-- the results of Cmp -/
def FcmpOut (a b : Nat) (s : Int) (ok : Bool) : Prop := if nanB a || nanB b then s = 0 ∧ ok = false else s = sgn3 (frank a) (frank b) ∧ ok = true
theorem fcmp_nan {a b : Nat} (h : nanB a = true ∨ nanB b = true) : FcmpOut a b 0 false := by
  unfold FcmpOut
  rw [if_pos (by rcases h with h | h <;> simp [h])]
  exact ⟨rfl, rfl⟩
theorem fcmp_num {a b : Nat} {s : Int} (ha : nanB a = false) (hb : nanB b = false) (hs : sgn3 (frank a) (frank b) = s) : FcmpOut a b s true := by
  unfold FcmpOut
  rw [if_neg (by simp [ha, hb])]
  exact ⟨hs.symm, rfl⟩

set_option maxRecDepth 100000 in
set_option maxHeartbeats 400000 in
theorem compare64_any (x y : Int) (w : World) : Calls Tryd.prog 72 #[.int .i64 x, .int .i64 y] w fun e w' => e = .returned (.int .i64 (sgn3 x y)) ∧ w = w' := by
  have hx : (x != x) = false := by simp
  have hy : (y != y) = false := by simp
  by_cases h1 : x < y
  · have e : sgn3 x y = -1 := by simp [sgn3, h1]
    have E := Lib.hid e; clear e
    go_enter Tryd.func72, Tryd.ntmps72
    go_wp2_with go_in
    go_ret
    exact ⟨by rw [E.out]; rfl, rfl⟩
  · by_cases h2 : y < x
    · have e : sgn3 x y = 1 := by simp [sgn3, h1, h2]
      have E := Lib.hid e; clear e
      go_enter Tryd.func72, Tryd.ntmps72
      go_wp2_with go_in
      go_ret
      exact ⟨by rw [E.out]; rfl, rfl⟩
    · have e : sgn3 x y = 0 := by simp [sgn3, h1, h2]
      have E := Lib.hid e; clear e
      go_enter Tryd.func72, Tryd.ntmps72
      go_wp2_with go_in
      go_ret
      exact ⟨by rw [E.out]; rfl, rfl⟩

set_option maxRecDepth 100000 in
set_option maxHeartbeats 1000000 in
theorem fcmp_any (a b : Nat) (ha : a < 18446744073709551616) (hb : b < 18446744073709551616) (s : Int) (ok : Bool) (h : FcmpOut a b s ok) (w : World) :
    Calls Tryd.prog 45 #[.int .u64 (a : Int), .int .u64 (b : Int)] w fun e w' => e = .returned (.tuple #[.int .i64 s, .bool ok]) ∧ Ext w w' := by
  unfold FcmpOut at h
  obtain ⟨na, hna⟩ : ∃ na, nanB a = na := ⟨_, rfl⟩
  obtain ⟨nb, hnb⟩ : ∃ nb, nanB b = nb := ⟨_, rfl⟩
  rw [hna, hnb] at h
  have HA := Lib.hid hna; clear hna
  have HB := Lib.hid hnb; clear hnb
  cases na with
  | true =>
    simp only [Bool.true_or, if_true] at h
    obtain ⟨rfl, rfl⟩ := h
    go_enter Tryd.func45, Tryd.ntmps45
    go_wp2_with (go_at_call 51; refine (isNaN_any a ha _).mono ?_; rw [HA.out]; rintro e w' ⟨rfl, rfl⟩)
    go_ret2
    exact ⟨rfl, Below.refl _ _⟩
  | false =>
    cases nb with
    | true =>
      simp only [Bool.false_or, if_true] at h
      obtain ⟨rfl, rfl⟩ := h
      go_enter Tryd.func45, Tryd.ntmps45
      go_wp2_with fail
      refine (isNaN_any a ha _).mono ?_
      rw [HA.out]
      rintro e w' ⟨rfl, rfl⟩
      go_wp2_with fail
      refine (isNaN_any b hb _).mono ?_
      rw [HB.out]
      rintro e w' ⟨rfl, rfl⟩
      go_wp2
      go_ret2
      exact ⟨rfl, Below.refl _ _⟩
    | false =>
      simp only [Bool.or_self, Bool.false_eq_true, if_false] at h
      obtain ⟨hs, rfl⟩ := h
      have ra := rank_any a ha
      have rb := rank_any b hb
      generalize frank a = x at *
      generalize frank b = y at *
      have RA := Lib.hid ra; clear ra
      have RB := Lib.hid rb; clear rb
      subst hs
      have HC := Lib.hid (compare64_any x y)
      generalize sgn3 x y = s at *
      go_enter Tryd.func45, Tryd.ntmps45
      go_wp2_with fail
      refine (isNaN_any a ha _).mono ?_
      rw [HA.out]
      rintro e w' ⟨rfl, rfl⟩
      go_wp2_with fail
      refine (isNaN_any b hb _).mono ?_
      rw [HB.out]
      rintro e w' ⟨rfl, rfl⟩
      go_wp2_with fail
      refine (RA.out _).mono ?_
      rintro e w' ⟨rfl, rfl⟩
      go_wp2_with fail
      refine (RB.out _).mono ?_
      rintro e w' ⟨rfl, rfl⟩
      go_wp2_with fail
      refine (HC.out _).mono ?_
      rintro e w' ⟨rfl, rfl⟩
      go_wp2
      go_ret2
      exact ⟨rfl, Below.refl _ _⟩
end Go.Proofs.YtfgmkeiiidckbaaDoor
