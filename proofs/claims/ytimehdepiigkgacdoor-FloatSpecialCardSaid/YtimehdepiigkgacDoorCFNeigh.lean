/- FloatNeighbours returns true, from what its callees do. -/
import Derived.Test.YtimehdepiigkgacDoorCFord
import Derived.Test.YtimehdepiigkgacDoorCFAwake
namespace Go.Proofs.YtimehdepiigkgacDoor
open Go.RowKit

theorem upF_at (f : Nat) (hf : f < 18446744073709551616) (r : Int) (hr : ((fupF f : Nat) : Int) = r) (w : World) :
    Calls Tryd.prog 19 #[.int .u64 (f : Int)] w fun e w' => e = .returned (.int .u64 r) ∧ w = w' := by
  rw [← hr]; exact upF_any f hf w
theorem downF_at (f : Nat) (hf : f < 18446744073709551616) (r : Int) (hr : ((fdownF f : Nat) : Int) = r) (w : World) :
    Calls Tryd.prog 20 #[.int .u64 (f : Int)] w fun e w' => e = .returned (.int .u64 r) ∧ w = w' := by
  rw [← hr]; exact downF_any f hf w
theorem kind_at (f : Nat) (hf : f < 18446744073709551616) (k : Int) (hk : fkind f = k) (w : World) :
    Calls Tryd.prog 15 #[.int .u64 (f : Int)] w fun e w' => e = .returned (.int .i64 k) ∧ w = w' := by
  rw [← hk]; exact kind_any f hf w

theorem nan_facts {f : Nat} (h : nanB f = true) : fkind f = 3 ∧ fupF f = 9221120237041090560 ∧ fdownF f = 9221120237041090560 := by
  have hm : 9218868437227405312 < fmag f := of_decide_eq_true h
  have hn : fnegF f = 9221120237041090560 := if_pos h
  refine ⟨?_, if_pos h, ?_⟩
  · rcases fkind_cases f with h1 | h1 | h1 | h1
    · omega
    · omega
    · omega
    · exact h1.2
  · unfold fdownF
    rw [hn]
    decide
theorem num_kind {f : Nat} (h : nanB f = false) : fkind f ≠ 3 := by
  have hm := nanB_not h
  rcases fkind_cases f with h1 | h1 | h1 | h1 <;> omega

theorem sgn3_cases' (x y : Int) : sgn3 x y = -1 ∧ x < y ∨ sgn3 x y = 0 ∧ x = y ∨ sgn3 x y = 1 ∧ y < x := by
  unfold sgn3
  split
  · left; exact ⟨rfl, by assumption⟩
  · right
    split
    · right; exact ⟨rfl, by assumption⟩
    · left; exact ⟨rfl, by omega⟩

theorem fcmp_at {aI bI : Int} (a b : Nat) (ha : a < 18446744073709551616) (hb : b < 18446744073709551616) (hA : (a : Int) = aI) (hB : (b : Int) = bI) (s : Int) (ok : Bool) (h : FcmpOut a b s ok) (w : World) :
    Calls Tryd.prog 21 #[.int .u64 aI, .int .u64 bI] w fun e w' => e = .returned (.tuple #[.int .i64 s, .bool ok]) ∧ Ext w w' := by
  rw [← hA, ← hB]; exact fcmp_any a b ha hb s ok h w

set_option maxRecDepth 100000 in
set_option maxHeartbeats 4000000 in
theorem fneigh_any (f g : Nat) (hf : f < 18446744073709551616) (hg : g < 18446744073709551616) (w : World) (hT : Table w) :
    Calls Tryd.prog 4 #[.int .u64 (f : Int), .int .u64 (g : Int)] w fun e w' => e = .returned (.bool true) ∧ Ext w w' := by
  have HT := Lib.hid hT
  have EX := Lib.hid (Ext.refl w)
  clear hT
  cases hn : nanB f with
  | true =>
    obtain ⟨f1, f2, f3⟩ := nan_facts hn
    have CU := Lib.hid (upF_at f hf 9221120237041090560 (by rw [f2]; rfl))
    have CD := Lib.hid (downF_at f hf 9221120237041090560 (by rw [f3]; rfl))
    have CK := Lib.hid (kind_at f hf 3 f1)
    clear f1 f2 f3 hn hf hg
    go_enter Tryd.func4, Tryd.ntmps4
    go_wp2_with fail
    refine (CU.out _).mono ?_
    rintro r w1 ⟨rfl, rfl⟩
    go_wp2_with fail
    refine (CD.out _).mono ?_
    rintro r w2 ⟨rfl, rfl⟩
    go_wp2_with fail
    refine (CK.out _).mono ?_
    rintro r w3 ⟨rfl, rfl⟩
    go_wp2_with fail
    refine (fawake_any _ (HT.out.below EX.out)).mono ?_
    rintro r wz ⟨rfl, hE⟩
    go_wp2
    go_ret
    exact ⟨rfl, Ext.trans EX.out hE⟩
  | false =>
    have hnk := num_kind hn
    obtain ⟨k, hk⟩ : ∃ k, fkind f = k := ⟨_, rfl⟩
    rw [hk] at hnk
    have CK := Lib.hid (kind_at f hf k hk)
    have hk3 : (k == 3) = false := beq_eq_false_iff_ne.2 hnk
    clear hk hnk
    by_cases hi : f = 9218868437227405312
    · subst hi
      have CU := Lib.hid (upF_at 9218868437227405312 hf 9218868437227405312 (by decide +kernel))
      have CD := Lib.hid (downF_at 9218868437227405312 hf 9218868437227405311 (by decide +kernel))
      have hfr : frank 9218868437227405312 = 9218868437227405312 := by decide +kernel
      have hgb : nanB g = false → frank g ≤ 9218868437227405312 := by
        intro h
        have h1 := nanB_not h
        unfold frank
        split <;> omega
      obtain ⟨s1, ok, hc1, hs1⟩ : ∃ s1 ok, FcmpOut 9218868437227405312 g s1 ok ∧ ¬ s1 < 0 := by
        cases hgn : nanB g with
        | true => exact ⟨0, false, fcmp_nan (Or.inr hgn), by omega⟩
        | false =>
          refine ⟨_, true, fcmp_num (by decide +kernel) hgn rfl, ?_⟩
          have := hgb hgn
          have := sgn3_cases' (frank 9218868437227405312) (frank g)
          omega
      obtain ⟨s2, ok2, hc2⟩ : ∃ s2 ok2, FcmpOut g 9218868437227405312 s2 ok2 := by
        cases hgn : nanB g with
        | true => exact ⟨0, false, fcmp_nan (Or.inl hgn)⟩
        | false => exact ⟨_, true, fcmp_num hgn (by decide +kernel) rfl⟩
      have C1 := Lib.hid (fcmp_at (aI := 9218868437227405312) 9218868437227405312 g hf hg rfl rfl s1 ok hc1)
      have C2 := Lib.hid (fcmp_at (bI := 9218868437227405312) g 9218868437227405312 hg hf rfl rfl s2 ok2 hc2)
      rw [show ((9218868437227405312 : Nat) : Int) = 9218868437227405312 from rfl] at CU CD CK ⊢
      clear hc1 hc2 hfr hgb hn hf hg
      cases ok
      all_goals
        go_enter Tryd.func4, Tryd.ntmps4
        go_wp2_with fail
        refine (CU.out _).mono ?_
        rintro r w1 ⟨rfl, rfl⟩
        go_wp2_with fail
        refine (CD.out _).mono ?_
        rintro r w2 ⟨rfl, rfl⟩
        go_wp2_with fail
        refine (CK.out _).mono ?_
        rintro r w3 ⟨rfl, rfl⟩
        go_wp2_with fail
        refine (C1.out _).mono ?_
        rintro r w4 ⟨rfl, hE⟩
        have EX := Lib.hid (Ext.trans EX.out hE)
        clear hE
        go_wp2_with fail
        refine (C2.out _).mono ?_
        rintro r w5 ⟨rfl, hE⟩
        have EX := Lib.hid (Ext.trans EX.out hE)
        clear hE
        go_wp2_with fail
        refine (fawake_any _ (HT.out.below EX.out)).mono ?_
        rintro r wz ⟨rfl, hE⟩
        go_wp2
        go_ret
        exact ⟨rfl, Ext.trans EX.out hE⟩
    · have hul := fupF_lt hf
      obtain ⟨u1, u2⟩ := up_rank hf hn hi
      have hfb := frank_bounds f
      have hub : frank (fupF f) ≠ -9218868437227405312 := by
        rw [u2]
        have h1 := nanB_not hn
        unfold frank
        split <;> omega
      obtain ⟨d1, d2⟩ := down_rank hul u1 hub
      have hdl : fdownF (fupF f) < 18446744073709551616 := fnegF_lt
      obtain ⟨dd, hdd⟩ : ∃ dd, fdownF f = dd := ⟨_, rfl⟩
      have CD := Lib.hid (downF_at f hf (dd : Int) (by rw [hdd]))
      clear hdd
      obtain ⟨u, hu⟩ : ∃ u, fupF f = u := ⟨_, rfl⟩
      have CU := Lib.hid (upF_at f hf (u : Int) (by rw [hu]))
      rw [hu] at hul u1 u2 hub d1 d2 hdl
      clear hu
      obtain ⟨v, hv⟩ : ∃ v, fdownF u = v := ⟨_, rfl⟩
      have CV := Lib.hid (downF_at u hul (v : Int) (by rw [hv]))
      rw [hv] at d1 d2 hdl
      clear hv
      have C3 := Lib.hid (fcmp_any f u hf hul (-1) true (fcmp_num hn u1 (by rw [u2]; exact sgn3_less (by omega))))
      have C4 := Lib.hid (fcmp_any v f hdl hf 0 true (fcmp_num d1 hn (by rw [d2, u2]; unfold sgn3; rw [if_neg (by omega), if_neg (by omega)])))
      have hi2 : ((f : Int) == 9218868437227405312) = false := by rw [beq_eq_false_iff_ne]; omega
      cases hgn : nanB g with
      | true =>
        have C1 := Lib.hid (fcmp_any f g hf hg 0 false (fcmp_nan (Or.inr hgn)))
        have C2 := Lib.hid (fcmp_any g u hg hul 0 false (fcmp_nan (Or.inl hgn)))
        clear u1 u2 hfb hub d1 d2 hdl hul hn hi hf hg hgn
        go_enter Tryd.func4, Tryd.ntmps4
        go_wp2_with fail
        refine (CU.out _).mono ?_
        rintro r w1 ⟨rfl, rfl⟩
        go_wp2_with fail
        refine (CD.out _).mono ?_
        rintro r w2 ⟨rfl, rfl⟩
        go_wp2_with fail
        refine (CK.out _).mono ?_
        rintro r w3 ⟨rfl, rfl⟩
        go_wp2_with fail
        refine (C1.out _).mono ?_
        rintro r w4 ⟨rfl, hE⟩
        have EX := Lib.hid (Ext.trans EX.out hE)
        clear hE
        go_wp2_with fail
        refine (C2.out _).mono ?_
        rintro r w5 ⟨rfl, hE⟩
        have EX := Lib.hid (Ext.trans EX.out hE)
        clear hE
        go_wp2_with fail
        refine (C3.out _).mono ?_
        rintro r w6 ⟨rfl, hE⟩
        have EX := Lib.hid (Ext.trans EX.out hE)
        clear hE
        go_wp2_with fail
        refine (CV.out _).mono ?_
        rintro r w7 ⟨rfl, rfl⟩
        go_wp2_with fail
        refine (C4.out _).mono ?_
        rintro r w8 ⟨rfl, hE⟩
        have EX := Lib.hid (Ext.trans EX.out hE)
        clear hE
        go_wp2_with fail
        refine (fawake_any _ (HT.out.below EX.out)).mono ?_
        rintro r wz ⟨rfl, hE⟩
        go_wp2
        go_ret
        exact ⟨rfl, Ext.trans EX.out hE⟩
      | false =>
        obtain ⟨s1, hs1⟩ : ∃ s1, sgn3 (frank f) (frank g) = s1 := ⟨_, rfl⟩
        obtain ⟨s2, hs2⟩ : ∃ s2, sgn3 (frank g) (frank u) = s2 := ⟨_, rfl⟩
        have C1 := Lib.hid (fcmp_any f g hf hg s1 true (fcmp_num hn hgn hs1))
        have C2 := Lib.hid (fcmp_any g u hg hul s2 true (fcmp_num hgn u1 hs2))
        have hor : ¬ s1 < 0 ∨ s1 < 0 ∧ ¬ s2 < 0 := by
          have h1 := sgn3_cases' (frank f) (frank g)
          have h2 := sgn3_cases' (frank g) (frank u)
          omega
        clear u1 u2 hfb hub d1 d2 hdl hul hn hi hf hg hgn hs1 hs2
        rcases hor with h1 | ⟨h1, h2⟩
        all_goals
          go_enter Tryd.func4, Tryd.ntmps4
          go_wp2_with fail
          refine (CU.out _).mono ?_
          rintro r w1 ⟨rfl, rfl⟩
          go_wp2_with fail
          refine (CD.out _).mono ?_
          rintro r w2 ⟨rfl, rfl⟩
          go_wp2_with fail
          refine (CK.out _).mono ?_
          rintro r w3 ⟨rfl, rfl⟩
          go_wp2_with fail
          refine (C1.out _).mono ?_
          rintro r w4 ⟨rfl, hE⟩
          have EX := Lib.hid (Ext.trans EX.out hE)
          clear hE
          go_wp2_with fail
          refine (C2.out _).mono ?_
          rintro r w5 ⟨rfl, hE⟩
          have EX := Lib.hid (Ext.trans EX.out hE)
          clear hE
          go_wp2_with fail
          refine (C3.out _).mono ?_
          rintro r w6 ⟨rfl, hE⟩
          have EX := Lib.hid (Ext.trans EX.out hE)
          clear hE
          go_wp2_with fail
          refine (CV.out _).mono ?_
          rintro r w7 ⟨rfl, rfl⟩
          go_wp2_with fail
          refine (C4.out _).mono ?_
          rintro r w8 ⟨rfl, hE⟩
          have EX := Lib.hid (Ext.trans EX.out hE)
          clear hE
          go_wp2_with fail
          refine (fawake_any _ (HT.out.below EX.out)).mono ?_
          rintro r wz ⟨rfl, hE⟩
          go_wp2
          go_ret
          exact ⟨rfl, Ext.trans EX.out hE⟩

theorem fneigh_int (i j : Int) (w : World) (hi0 : 0 ≤ i) (hi1 : i ≤ 18446744073709551615) (hj0 : 0 ≤ j) (hj1 : j ≤ 18446744073709551615) (hT : Table w) :
    Calls Tryd.prog 4 #[.int .u64 i, .int .u64 j] w fun e w' => e = .returned (.bool true) ∧ Ext w w' := by
  have h := fneigh_any i.toNat j.toNat (by omega) (by omega) w hT
  rw [Int.toNat_of_nonneg hi0, Int.toNat_of_nonneg hj0] at h
  exact h
end Go.Proofs.YtimehdepiigkgacDoor
