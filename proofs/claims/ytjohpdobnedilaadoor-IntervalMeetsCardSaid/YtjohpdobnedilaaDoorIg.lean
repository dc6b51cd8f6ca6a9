/- What the reference's small functions of floats do: Kind, signs, order. -/
import Derived.Test.YtjohpdobnedilaaDoorHd
namespace Go.Proofs.YtjohpdobnedilaaDoor
open Go.RowKit

theorem kind_fields {f q r : Nat} (hq : f / 4503599627370496 % 2048 = q) (hr : f % 4503599627370496 = r) : fmag f = q * 4503599627370496 + r ∧ q < 2048 ∧ r < 4503599627370496 := by
  unfold fmag
  omega
theorem and_fields (f : Nat) (hf : f < 18446744073709551616) : bits BinOp.and IntKind.u64 ((f : Int) / 4503599627370496) 2047 = ((f / 4503599627370496 % 2048 : Nat) : Int) ∧ bits BinOp.and IntKind.u64 (f : Int) 4503599627370495 = ((f % 4503599627370496 : Nat) : Int) := by
  have h1 : (f : Int) / 4503599627370496 = ((f / 4503599627370496 : Nat) : Int) := (Int.natCast_ediv _ _).symm
  have h2 := bits_and_u64_nat (f / 4503599627370496) 2047 (by omega) (by omega)
  rw [show (2047 : Nat) = 2 ^ 11 - 1 from rfl, Nat.and_two_pow_sub_one_eq_mod] at h2
  have h3 := bits_and_u64_nat f 4503599627370495 (by omega) (by omega)
  rw [show (4503599627370495 : Nat) = 2 ^ 52 - 1 from rfl, Nat.and_two_pow_sub_one_eq_mod] at h3
  rw [h1]
  exact ⟨h2, h3⟩

set_option maxRecDepth 100000 in
set_option maxHeartbeats 1000000 in
theorem refKind_any (f : Nat) (hf : f < 18446744073709551616) (w : World) :
    Calls Tryd.prog 67 #[.int .u64 (f : Int)] w fun e w' => e = .returned (.int .i64 (fkind f)) ∧ w = w' := by
  obtain ⟨h1, h2⟩ := and_fields f hf
  obtain ⟨q, hq⟩ : ∃ q : Nat, f / 4503599627370496 % 2048 = q := ⟨_, rfl⟩
  obtain ⟨r, hr⟩ : ∃ r : Nat, f % 4503599627370496 = r := ⟨_, rfl⟩
  obtain ⟨hm, hq', hr'⟩ := kind_fields hq hr
  rw [hq] at h1
  rw [hr] at h2
  have hk := fkind_cases f
  rw [hm] at hk
  generalize fkind f = k at *
  clear hq hr hm hf
  by_cases c1 : q = 2047
  · have b1 : ((q : Int) == 2047) = true := by rw [beq_iff_eq]; omega
    by_cases c2 : r = 0
    · obtain rfl : k = 2 := by omega
      have b2 : ((r : Int) != 0) = false := by simp; omega
      clear hk c1 c2 hq' hr'
      go_enter Tryd.func67, Tryd.ntmps67
      go_wp2
      go_ret
      exact ⟨rfl, rfl⟩
    · obtain rfl : k = 3 := by omega
      have b2 : ((r : Int) != 0) = true := by simp; omega
      clear hk c1 c2 hq' hr'
      go_enter Tryd.func67, Tryd.ntmps67
      go_wp2
      go_ret
      exact ⟨rfl, rfl⟩
  · have b1 : ((q : Int) == 2047) = false := by rw [beq_eq_false_iff_ne]; omega
    by_cases c2 : q = 0
    · have b3 : ((q : Int) == 0) = true := by rw [beq_iff_eq]; omega
      by_cases c3 : r = 0
      · obtain rfl : k = 0 := by omega
        have b4 : ((r : Int) == 0) = true := by rw [beq_iff_eq]; omega
        clear hk c1 c2 c3 hq' hr'
        go_enter Tryd.func67, Tryd.ntmps67
        go_wp2
        go_ret
        exact ⟨rfl, rfl⟩
      · obtain rfl : k = 1 := by omega
        have b4 : ((r : Int) == 0) = false := by rw [beq_eq_false_iff_ne]; omega
        clear hk c1 c2 c3 hq' hr'
        go_enter Tryd.func67, Tryd.ntmps67
        go_wp2
        go_ret
        exact ⟨rfl, rfl⟩
    · obtain rfl : k = 1 := by omega
      have b3 : ((q : Int) == 0) = false := by rw [beq_eq_false_iff_ne]; omega
      clear hk c1 c2 hq' hr'
      go_enter Tryd.func67, Tryd.ntmps67
      go_wp2
      go_ret
      exact ⟨rfl, rfl⟩

theorem kind_nan (f : Nat) : (fkind f == 3) = nanB f := by
  have h := fkind_cases f
  unfold nanB
  generalize fkind f = k at *
  generalize fmag f = m at *
  by_cases h1 : 9218868437227405312 < m
  · rw [decide_eq_true h1, beq_iff_eq]; omega
  · rw [decide_eq_false h1, beq_eq_false_iff_ne]; omega

set_option maxRecDepth 100000 in
theorem refNan_any (f : Nat) (hf : f < 18446744073709551616) (b : Bool) (hb : nanB f = b) (w : World) :
    Calls Tryd.prog 45 #[.int .u64 (f : Int)] w fun e w' => e = .returned (.bool b) ∧ w = w' := by
  have hk := kind_nan f
  rw [hb] at hk
  have HK := Lib.hid hk
  clear hk hb
  go_enter Tryd.func45, Tryd.ntmps45
  go_wp2_with fail
  refine (refKind_any f hf _).mono ?_
  rintro e w' ⟨rfl, rfl⟩
  go_wp2
  go_ret
  exact ⟨ret_bool HK.out, rfl⟩

set_option maxRecDepth 100000 in
theorem refMinus_any (f : Nat) (hf : f < 18446744073709551616) (b : Bool) (hb : fneg f = b) (w : World) :
    Calls Tryd.prog 44 #[.int .u64 (f : Int)] w fun e w' => e = .returned (.bool b) ∧ w = w' := by
  have ha := and_sign hf
  rw [hb] at ha
  clear hb
  cases b
  all_goals
    unfold sgz at ha
    simp only [if_true, Bool.false_eq_true, if_false] at ha
    go_enter Tryd.func44, Tryd.ntmps44
    go_wp2
    go_ret
    exact ⟨ret_bool (by first | rfl | decide | simp), rfl⟩

set_option maxRecDepth 100000 in
theorem refKey_any (f : Nat) (hf : f < 18446744073709551616) (r : Int) (hr : frank f = r) (w : World) :
    Calls Tryd.prog 46 #[.int .u64 (f : Int)] w fun e w' => e = .returned (.int .i64 r) ∧ w = w' := by
  have ha := andNot_sign hf
  have hm := fmag_lt f
  have hp := f_parts hf
  unfold frank at hr
  cases hn : fneg f
  · rw [hn] at hr hp
    have C := Lib.hid (refMinus_any f hf false hn)
    simp only [Bool.false_eq_true, if_false] at hr
    have hp : f = fmag f := by unfold sgz at hp; simpa using hp
    have hv : (f : Int) = r := by rw [← hr, ← hp]
    have hr0 : 0 ≤ r := by omega
    have hr1 : r < 9223372036854775808 := by omega
    rw [hv] at C ⊢
    clear ha hm hp hr hn hf hv
    go_enter Tryd.func46, Tryd.ntmps46
    go_wp2_with fail
    refine (C.out _).mono ?_
    rintro e w' ⟨rfl, rfl⟩
    go_wp2
    go_ret
    exact ⟨rfl, rfl⟩
  · rw [hn] at hr
    have C := Lib.hid (refMinus_any f hf true hn)
    simp only [if_true] at hr
    subst hr
    generalize fmag f = m at *
    clear hp hn hf
    go_enter Tryd.func46, Tryd.ntmps46
    go_wp2_with fail
    refine (C.out _).mono ?_
    rintro e w' ⟨rfl, rfl⟩
    go_wp2
    go_ret
    exact ⟨ret_int (by first | rfl | simp | (simp; omega)), rfl⟩

set_option maxRecDepth 100000 in
set_option maxHeartbeats 2000000 in
theorem refFCmp_any (a b : Nat) (ha : a < 18446744073709551616) (hb : b < 18446744073709551616) (s : Int) (ok : Bool) (h : FcmpOut a b s ok) (w : World) :
    Calls Tryd.prog 24 #[.int .u64 (a : Int), .int .u64 (b : Int)] w fun e w' => e = .returned (.tuple #[.int .i64 s, .bool ok]) ∧ Ext w w' := by
  unfold FcmpOut at h
  obtain ⟨na, hna⟩ : ∃ na, nanB a = na := ⟨_, rfl⟩
  obtain ⟨nb, hnb⟩ : ∃ nb, nanB b = nb := ⟨_, rfl⟩
  have CA := Lib.hid (refNan_any a ha na hna)
  have CB := Lib.hid (refNan_any b hb nb hnb)
  obtain ⟨x, hx⟩ : ∃ x, frank a = x := ⟨_, rfl⟩
  obtain ⟨y, hy⟩ : ∃ y, frank b = y := ⟨_, rfl⟩
  have KA := Lib.hid (refKey_any a ha x hx)
  have KB := Lib.hid (refKey_any b hb y hy)
  rw [hna, hnb, hx, hy] at h
  clear hna hnb hx hy ha hb
  cases na with
  | true =>
    simp only [Bool.true_or, if_true] at h
    obtain ⟨rfl, rfl⟩ := h
    go_enter Tryd.func24, Tryd.ntmps24
    go_wp2_with fail
    refine (CA.out _).mono ?_
    rintro e w' ⟨rfl, rfl⟩
    go_wp2
    go_ret2
    exact ⟨rfl, Below.refl _ _⟩
  | false =>
    cases nb with
    | true =>
      simp only [Bool.false_or, if_true] at h
      obtain ⟨rfl, rfl⟩ := h
      go_enter Tryd.func24, Tryd.ntmps24
      go_wp2_with fail
      refine (CA.out _).mono ?_
      rintro e w' ⟨rfl, rfl⟩
      go_wp2_with fail
      refine (CB.out _).mono ?_
      rintro e w' ⟨rfl, rfl⟩
      go_wp2
      go_ret2
      exact ⟨rfl, Below.refl _ _⟩
    | false =>
      simp only [Bool.or_self, Bool.false_eq_true, if_false] at h
      obtain ⟨hs, rfl⟩ := h
      obtain ⟨c, d, e⟩ | ⟨c, d, e⟩ | ⟨c, d, e⟩ : (x < y ∧ ¬ y < x ∧ s = -1) ∨ (¬ x < y ∧ y < x ∧ s = 1) ∨ (¬ x < y ∧ ¬ y < x ∧ s = 0) := by
        rw [hs]; unfold sgn3; split
        · omega
        · split <;> omega
      all_goals
        subst e
        clear hs
        go_enter Tryd.func24, Tryd.ntmps24
        go_wp2_with fail
        refine (CA.out _).mono ?_
        rintro e w' ⟨rfl, rfl⟩
        go_wp2_with fail
        refine (CB.out _).mono ?_
        rintro e w' ⟨rfl, rfl⟩
        go_wp2_with (first | (go_at_call 46; (with_reducible refine (KA.out _).mono ?_); rintro e w' ⟨rfl, rfl⟩) | (go_at_call 46; (with_reducible refine (KB.out _).mono ?_); rintro e w' ⟨rfl, rfl⟩))
        go_ret2
        exact ⟨rfl, Below.refl _ _⟩
end Go.Proofs.YtjohpdobnedilaaDoor

/- What the reference's IsFinite does. -/
namespace Go.Proofs.YtjohpdobnedilaaDoor
open Go.RowKit

set_option maxRecDepth 100000 in
theorem refFin_any (f : Nat) (hf : f < 18446744073709551616) (b : Bool) (hb : finB f = b) (w : World) :
    Calls Tryd.prog 41 #[.int .u64 (f : Int)] w fun e w' => e = .returned (.bool b) ∧ w = w' := by
  have h1 : (f : Int) / 4503599627370496 = ((f / 4503599627370496 : Nat) : Int) := (Int.natCast_ediv _ _).symm
  have h2 := bits_and_u64_nat (f / 4503599627370496) 2047 (by omega) (by omega)
  rw [show (2047 : Nat) = 2 ^ 11 - 1 from rfl, Nat.and_two_pow_sub_one_eq_mod] at h2
  have h3 : (((f / 4503599627370496 % 2 ^ 11 : Nat) : Int) != 2047) = b := by
    rw [← hb]
    unfold finB fmag
    by_cases h : f % 9223372036854775808 < 9218868437227405312
    · rw [decide_eq_true h]; simp; omega
    · rw [decide_eq_false h]; simp; omega
  obtain ⟨q, hq⟩ : ∃ q : Nat, f / 4503599627370496 % 2 ^ 11 = q := ⟨_, rfl⟩
  rw [hq] at h2 h3
  have h2 : bits BinOp.and IntKind.u64 ((f / 4503599627370496 : Nat) : Int) 2047 = (q : Int) := h2
  rw [← h1] at h2
  clear hb hq h1
  cases b
  all_goals
    go_enter Tryd.func41, Tryd.ntmps41
    go_wp2
    go_ret
    exact ⟨ret_bool (by first | rfl | exact h3), rfl⟩
end Go.Proofs.YtjohpdobnedilaaDoor
