import Derived.Test.YtekocoklfnojmaaDoorIUndoU18
import Derived.Test.YtekocoklfnojmaaDoorIUndoU0
import Derived.Test.YtekocoklfnojmaaDoorIUndoU16
import Derived.Test.YtekocoklfnojmaaDoorIUndoU9
import Derived.Test.YtekocoklfnojmaaDoorIUndoU8
import Derived.Test.YtekocoklfnojmaaDoorIUndoU6
import Derived.Deep.RegionHeld3
import Derived.Test.YtekocoklfnojmaaDoorIUndoU2
namespace Go.Proofs.YtekocoklfnojmaaDoor
open Go.RowKit

theorem kind_fields {f q r : Nat} (hq : f / 4503599627370496 % 2048 = q) (hr : f % 4503599627370496 = r) : fmag f = q * 4503599627370496 + r ∧ q < 2048 ∧ r < 4503599627370496 := by
  unfold fmag
  omega
theorem and_fields (f : Nat) (hf : f < 18446744073709551616) : bits BinOp.and IntKind.u64 ((f : Int) / 4503599627370496) 2047 = ((f / 4503599627370496 % 2048 : Nat) : Int) ∧ bits BinOp.and IntKind.u64 (f : Int) 4503599627370495 = ((f % 4503599627370496 : Nat) : Int) := by
  have h1 : (f : Int) / 4503599627370496 = ((f / 4503599627370496 : Nat) : Int) := (Int.natCast_ediv _ _).symm
  have h2 := bits_and_u64_nat (f / 4503599627370496) 2047 (by omega) (by omega)
  rw [show (2047 : Nat) = 2 ^ 11 - 1 from rfl, Nat.and_two_pow_sub_one_eq_mod] at h2
  have h3 := bits_and_u64_nat f 4503599627370495 (by omega) (by omega)
  rw [show (4503599627370495 : Nat) = 2 ^ 52 - 1 from rfl, Nat.and_two_pow_sub_one_eq_mod] at h3
  rw [h1]
  exact ⟨h2, h3⟩

set_option maxRecDepth 100000 in
set_option maxHeartbeats 1000000 in
theorem refKind_any (f : Nat) (hf : f < 18446744073709551616) (w : World) :
    Calls Tryd.prog 66 #[.int .u64 (f : Int)] w fun e w' => e = .returned (.int .i64 (fkind f)) ∧ w = w' := by
  obtain ⟨h1, h2⟩ := and_fields f hf
  obtain ⟨q, hq⟩ : ∃ q : Nat, f / 4503599627370496 % 2048 = q := ⟨_, rfl⟩
  obtain ⟨r, hr⟩ : ∃ r : Nat, f % 4503599627370496 = r := ⟨_, rfl⟩
  obtain ⟨hm, hq', hr'⟩ := kind_fields hq hr
  rw [hq] at h1
  rw [hr] at h2
  have hk := fkind_cases f
  rw [hm] at hk
  generalize fkind f = k at *
  clear hq hr hm hf
  by_cases c1 : q = 2047
  · have b1 : ((q : Int) == 2047) = true := by rw [beq_iff_eq]; omega
    by_cases c2 : r = 0
    · obtain rfl : k = 2 := by omega
      have b2 : ((r : Int) != 0) = false := by simp; omega
      clear hk c1 c2 hq' hr'
      go_enter Tryd.func66, Tryd.ntmps66
      go_wp2
      go_ret
      exact ⟨rfl, rfl⟩
    · obtain rfl : k = 3 := by omega
      have b2 : ((r : Int) != 0) = true := by simp; omega
      clear hk c1 c2 hq' hr'
      go_enter Tryd.func66, Tryd.ntmps66
      go_wp2
      go_ret
      exact ⟨rfl, rfl⟩
  · have b1 : ((q : Int) == 2047) = false := by rw [beq_eq_false_iff_ne]; omega
    by_cases c2 : q = 0
    · have b3 : ((q : Int) == 0) = true := by rw [beq_iff_eq]; omega
      by_cases c3 : r = 0
      · obtain rfl : k = 0 := by omega
        have b4 : ((r : Int) == 0) = true := by rw [beq_iff_eq]; omega
        clear hk c1 c2 c3 hq' hr'
        go_enter Tryd.func66, Tryd.ntmps66
        go_wp2
        go_ret
        exact ⟨rfl, rfl⟩
      · obtain rfl : k = 1 := by omega
        have b4 : ((r : Int) == 0) = false := by rw [beq_eq_false_iff_ne]; omega
        clear hk c1 c2 c3 hq' hr'
        go_enter Tryd.func66, Tryd.ntmps66
        go_wp2
        go_ret
        exact ⟨rfl, rfl⟩
    · obtain rfl : k = 1 := by omega
      have b3 : ((q : Int) == 0) = false := by rw [beq_eq_false_iff_ne]; omega
      clear hk c1 c2 hq' hr'
      go_enter Tryd.func66, Tryd.ntmps66
      go_wp2
      go_ret
      exact ⟨rfl, rfl⟩

theorem kind_nan (f : Nat) : (fkind f == 3) = nanB f := by
  have h := fkind_cases f
  unfold nanB
  generalize fkind f = k at *
  generalize fmag f = m at *
  by_cases h1 : 9218868437227405312 < m
  · rw [decide_eq_true h1, beq_iff_eq]; omega
  · rw [decide_eq_false h1, beq_eq_false_iff_ne]; omega

set_option maxRecDepth 100000 in
theorem refNan_any (f : Nat) (hf : f < 18446744073709551616) (b : Bool) (hb : nanB f = b) (w : World) :
    Calls Tryd.prog 38 #[.int .u64 (f : Int)] w fun e w' => e = .returned (.bool b) ∧ w = w' := by
  have hk := kind_nan f
  rw [hb] at hk
  have HK := Lib.hid hk
  clear hk hb
  go_enter Tryd.func38, Tryd.ntmps38
  go_wp2_with fail
  refine (refKind_any f hf _).mono ?_
  rintro e w' ⟨rfl, rfl⟩
  go_wp2
  go_ret
  exact ⟨ret_bool HK.out, rfl⟩

set_option maxRecDepth 100000 in
theorem refMinus_any (f : Nat) (hf : f < 18446744073709551616) (b : Bool) (hb : fneg f = b) (w : World) :
    Calls Tryd.prog 67 #[.int .u64 (f : Int)] w fun e w' => e = .returned (.bool b) ∧ w = w' := by
  have ha := and_sign hf
  rw [hb] at ha
  clear hb
  cases b
  all_goals
    unfold sgz at ha
    simp only [if_true, Bool.false_eq_true, if_false] at ha
    go_enter Tryd.func67, Tryd.ntmps67
    go_wp2
    go_ret
    exact ⟨ret_bool (by first | rfl | decide | simp), rfl⟩

set_option maxRecDepth 100000 in
theorem refKey_any (f : Nat) (hf : f < 18446744073709551616) (r : Int) (hr : frank f = r) (w : World) :
    Calls Tryd.prog 39 #[.int .u64 (f : Int)] w fun e w' => e = .returned (.int .i64 r) ∧ w = w' := by
  have ha := andNot_sign hf
  have hm := fmag_lt f
  have hp := f_parts hf
  unfold frank at hr
  cases hn : fneg f
  · rw [hn] at hr hp
    have C := Lib.hid (refMinus_any f hf false hn)
    simp only [Bool.false_eq_true, if_false] at hr
    have hp : f = fmag f := by unfold sgz at hp; simpa using hp
    have hv : (f : Int) = r := by rw [← hr, ← hp]
    have hr0 : 0 ≤ r := by omega
    have hr1 : r < 9223372036854775808 := by omega
    rw [hv] at C ⊢
    clear ha hm hp hr hn hf hv
    go_enter Tryd.func39, Tryd.ntmps39
    go_wp2_with fail
    refine (C.out _).mono ?_
    rintro e w' ⟨rfl, rfl⟩
    go_wp2
    go_ret
    exact ⟨rfl, rfl⟩
  · rw [hn] at hr
    have C := Lib.hid (refMinus_any f hf true hn)
    simp only [if_true] at hr
    subst hr
    generalize fmag f = m at *
    clear hp hn hf
    go_enter Tryd.func39, Tryd.ntmps39
    go_wp2_with fail
    refine (C.out _).mono ?_
    rintro e w' ⟨rfl, rfl⟩
    go_wp2
    go_ret
    exact ⟨ret_int (by first | rfl | simp | (simp; omega)), rfl⟩

set_option maxRecDepth 100000 in
set_option maxHeartbeats 2000000 in
theorem refFCmp_any (a b : Nat) (ha : a < 18446744073709551616) (hb : b < 18446744073709551616) (s : Int) (ok : Bool) (h : FcmpOut a b s ok) (w : World) :
    Calls Tryd.prog 16 #[.int .u64 (a : Int), .int .u64 (b : Int)] w fun e w' => e = .returned (.tuple #[.int .i64 s, .bool ok]) ∧ Ext w w' := by
  unfold FcmpOut at h
  obtain ⟨na, hna⟩ : ∃ na, nanB a = na := ⟨_, rfl⟩
  obtain ⟨nb, hnb⟩ : ∃ nb, nanB b = nb := ⟨_, rfl⟩
  have CA := Lib.hid (refNan_any a ha na hna)
  have CB := Lib.hid (refNan_any b hb nb hnb)
  obtain ⟨x, hx⟩ : ∃ x, frank a = x := ⟨_, rfl⟩
  obtain ⟨y, hy⟩ : ∃ y, frank b = y := ⟨_, rfl⟩
  have KA := Lib.hid (refKey_any a ha x hx)
  have KB := Lib.hid (refKey_any b hb y hy)
  rw [hna, hnb, hx, hy] at h
  clear hna hnb hx hy ha hb
  cases na with
  | true =>
    simp only [Bool.true_or, if_true] at h
    obtain ⟨rfl, rfl⟩ := h
    go_enter Tryd.func16, Tryd.ntmps16
    go_wp2_with fail
    refine (CA.out _).mono ?_
    rintro e w' ⟨rfl, rfl⟩
    go_wp2
    go_ret2
    exact ⟨rfl, Below.refl _ _⟩
  | false =>
    cases nb with
    | true =>
      simp only [Bool.false_or, if_true] at h
      obtain ⟨rfl, rfl⟩ := h
      go_enter Tryd.func16, Tryd.ntmps16
      go_wp2_with fail
      refine (CA.out _).mono ?_
      rintro e w' ⟨rfl, rfl⟩
      go_wp2_with fail
      refine (CB.out _).mono ?_
      rintro e w' ⟨rfl, rfl⟩
      go_wp2
      go_ret2
      exact ⟨rfl, Below.refl _ _⟩
    | false =>
      simp only [Bool.or_self, Bool.false_eq_true, if_false] at h
      obtain ⟨hs, rfl⟩ := h
      obtain ⟨c, d, e⟩ | ⟨c, d, e⟩ | ⟨c, d, e⟩ : (x < y ∧ ¬ y < x ∧ s = -1) ∨ (¬ x < y ∧ y < x ∧ s = 1) ∨ (¬ x < y ∧ ¬ y < x ∧ s = 0) := by
        rw [hs]; unfold sgn3; split
        · omega
        · split <;> omega
      all_goals
        subst e
        clear hs
        go_enter Tryd.func16, Tryd.ntmps16
        go_wp2_with fail
        refine (CA.out _).mono ?_
        rintro e w' ⟨rfl, rfl⟩
        go_wp2_with fail
        refine (CB.out _).mono ?_
        rintro e w' ⟨rfl, rfl⟩
        go_wp2_with (first | (go_at_call 39; (with_reducible refine (KA.out _).mono ?_); rintro e w' ⟨rfl, rfl⟩) | (go_at_call 39; (with_reducible refine (KB.out _).mono ?_); rintro e w' ⟨rfl, rfl⟩))
        go_ret2
        exact ⟨rfl, Below.refl _ _⟩
end Go.Proofs.YtekocoklfnojmaaDoor

namespace Go.Proofs.YtekocoklfnojmaaDoor
open Go.RowKit

theorem blen_spec {a : Nat} (h : a ≠ 0) : ∃ l, blen a = l + 1 ∧ 2 ^ l ≤ a ∧ a < 2 ^ (l + 1) := by
  refine ⟨Nat.log2 a, by unfold blen; rw [if_neg h], Nat.log2_self_le h, Nat.lt_log2_self⟩

theorem blen_limbs {a e : Nat} (h : a < 4294967296 ^ e) : blen a ≤ 32 * e := by
  rw [show 4294967296 ^ e = 2 ^ (32 * e) by rw [Nat.pow_mul]] at h
  by_cases h0 : a = 0
  · unfold blen; rw [if_pos h0]; omega
  · have h1 : blen a = Nat.log2 a + 1 := by unfold blen; rw [if_neg h0]
    have h2 := (Nat.log2_lt h0).2 h
    omega

theorem pow_limbs {k e : Nat} (h : k ≤ 32 * e) : 2 ^ k ≤ 4294967296 ^ e := by
  rw [show 4294967296 ^ e = 2 ^ (32 * e) by rw [Nat.pow_mul]]
  exact Nat.pow_le_pow_right (by omega) h

end Go.Proofs.YtekocoklfnojmaaDoor

namespace Go.Proofs.YtekocoklfnojmaaDoor

/-- how often 2 divides a, 0 for zero -/
def tzf (a : Nat) : Nat := if h : a = 0 ∨ a % 2 = 1 then 0 else tzf (a / 2) + 1
termination_by a
decreasing_by omega

theorem tzf_isTz (a : Nat) : IsTz a (tzf a) := by
  induction a using Nat.strongRecOn with
  | _ a ih =>
    rw [tzf]
    by_cases h0 : a = 0
    · rw [dif_pos (Or.inl h0)]; exact Or.inl ⟨h0, rfl⟩
    · by_cases h1 : a % 2 = 1
      · rw [dif_pos (Or.inr h1)]; exact Or.inr ⟨h0, a / 2, by rw [Nat.pow_zero]; omega⟩
      · rw [dif_neg (by omega)]
        rcases ih (a / 2) (by omega) with ⟨h2, _⟩ | ⟨_, m, hm⟩
        · omega
        · refine Or.inr ⟨h0, m, ?_⟩
          rw [Nat.pow_succ, Nat.mul_assoc, Nat.mul_left_comm, ← hm]; omega

theorem tzf_of {a t : Nat} (h : IsTz a t) : t = tzf a := h.unique (tzf_isTz a)
theorem tzf_odd {a : Nat} (h : a % 2 = 1) : tzf a = 0 := by rw [tzf]; simp [h]
theorem tzf_mul {a : Nat} (h : a ≠ 0) (k : Nat) : tzf (a * 2 ^ k) = tzf a + k := ((tzf_of ((tzf_isTz a).mul h k))).symm

theorem two_pos (k : Nat) : (0 : Int) < 2 ^ k := Int.pow_pos (by omega)
theorem natAbs_shift (x : Int) (k : Nat) : (x * 2 ^ k).natAbs = x.natAbs * 2 ^ k := by rw [Int.natAbs_mul, Int.natAbs_pow]; rfl
theorem mul_two_ne {x : Int} (h : x ≠ 0) (k : Nat) : x * 2 ^ k ≠ 0 := Int.mul_ne_zero h (Int.ne_of_gt (two_pos k))

/-- the odd part -/
theorem odd_part {x : Int} (h : x ≠ 0) : ∃ m, x = m * 2 ^ tzf x.natAbs ∧ m.natAbs % 2 = 1 ∧ x / 2 ^ tzf x.natAbs = m := by
  rcases tzf_isTz x.natAbs with ⟨h0, _⟩ | ⟨_, q, hq⟩
  · omega
  · generalize tzf x.natAbs = t at *
    have hp := two_pos t
    rcases Int.lt_or_gt_of_ne h with hx | hx
    · have e : x = (-(2 * (q : Int) + 1)) * 2 ^ t := by
        have : x = -(x.natAbs : Int) := by omega
        rw [this, hq]; push_cast; rw [Int.neg_mul, Int.mul_comm]
      exact ⟨_, e, by omega, by rw [e, Int.mul_ediv_cancel _ (Int.ne_of_gt hp)]⟩
    · have e : x = (2 * (q : Int) + 1) * 2 ^ t := by
        have : x = (x.natAbs : Int) := by omega
        rw [this, hq]; push_cast; rw [Int.mul_comm]
      exact ⟨_, e, by omega, by rw [e, Int.mul_ediv_cancel _ (Int.ne_of_gt hp)]⟩

/-- a dyad: none if it is not representable, otherwise the odd integer and the exponent (or two zeros) -/
abbrev Dy := Option (Int × Int)

/-- x times 2 to the power e, normalized -/
def dmk (x e : Int) : Dy :=
  if x = 0 then some (0, 0) else
  if e < -65536 - (tzf x.natAbs : Int) ∨ 65536 - (blen x.natAbs : Int) < e then none else some (x / 2 ^ tzf x.natAbs, e + tzf x.natAbs)

theorem dmk_zero (e : Int) : dmk 0 e = some (0, 0) := by simp [dmk]
theorem dmk_shift (x e : Int) (k : Nat) : dmk (x * 2 ^ k) e = dmk x (e + k) := by
  by_cases h : x = 0
  · subst h; simp [dmk]
  · have hn : x.natAbs ≠ 0 := by omega
    unfold dmk
    rw [if_neg h, if_neg (mul_two_ne h k), natAbs_shift, tzf_mul hn, blen_mul hn]
    have e1 : x * 2 ^ k / 2 ^ (tzf x.natAbs + k) = x / 2 ^ tzf x.natAbs := by
      rw [Int.pow_add, Int.mul_ediv_mul_of_pos_left _ _ (two_pos k)]
    rw [e1]
    by_cases hc : e < -65536 - ((tzf x.natAbs + k : Nat) : Int) ∨ 65536 - ((blen x.natAbs + k : Nat) : Int) < e
    · rw [if_pos hc, if_pos (by omega)]
    · rw [if_neg hc, if_neg (by omega)]
      congr 2; omega

/-- in normalized form -/
def Nd : Dy → Prop
  | none => True
  | some (m, e) => (m = 0 ∧ e = 0) ∨ (m.natAbs % 2 = 1 ∧ -65536 ≤ e ∧ e + blen m.natAbs ≤ 65536)

theorem dmk_nd (x e : Int) : Nd (dmk x e) := by
  unfold dmk
  by_cases h : x = 0
  · rw [if_pos h]; exact Or.inl ⟨rfl, rfl⟩
  · rw [if_neg h]
    split
    · trivial
    · rename_i hc
      obtain ⟨m, h1, h2, h3⟩ := odd_part h
      refine Or.inr ?_
      rw [h3]
      have hb : blen x.natAbs = blen m.natAbs + tzf x.natAbs := by
        conv => lhs; rw [h1]
        rw [natAbs_shift, blen_mul (by omega)]
      refine ⟨h2, by omega, by omega⟩

theorem dmk_norm {m e : Int} (h : Nd (some (m, e))) : dmk m e = some (m, e) := by
  rcases h with ⟨rfl, rfl⟩ | ⟨h1, h2, h3⟩
  · exact dmk_zero 0
  · unfold dmk
    rw [if_neg (by omega), tzf_odd h1, if_neg (by omega)]
    simp

/-- the integer in units of 2^-65536; not for none -/
def sc : Dy → Int
  | none => 0
  | some (m, e) => m * 2 ^ (e + 65536).toNat

/-- the sum, the product, the opposite -/
def dadd : Dy → Dy → Dy
  | some p, some q => dmk (sc (some p) + sc (some q)) (-65536)
  | _, _ => none
def dmul : Dy → Dy → Dy
  | some p, some q => dmk (p.1 * q.1) (p.2 + q.2)
  | _, _ => none
def dneg : Dy → Dy
  | some p => some (-p.1, p.2)
  | none => none
theorem dneg_nd {d : Dy} (h : Nd d) : Nd (dneg d) := by
  cases d with
  | none => trivial
  | some p =>
    rcases h with ⟨h1, h2⟩ | ⟨h1, h2, h3⟩
    · exact Or.inl ⟨by simp [h1], h2⟩
    · exact Or.inr ⟨by simpa using h1, h2, by simpa using h3⟩
/-- d is valid, and N in units of 2^-S -/
def Is (d : Dy) (S : Nat) (N : Int) : Prop := ∃ m e, d = some (m, e) ∧ Nd d ∧ 0 ≤ e + S ∧ N = m * 2 ^ (e + S).toNat

theorem Is.nd {d : Dy} {S : Nat} {N : Int} (h : Is d S N) : Nd d := by obtain ⟨_, _, _, h, _⟩ := h; exact h
theorem Is.mk {d : Dy} {S : Nat} {N : Int} (h : Is d S N) : d = dmk N (-S) := by
  obtain ⟨m, e, rfl, h1, h2, rfl⟩ := h
  rw [dmk_shift, show (-(S : Int)) + (e + S).toNat = e by omega, dmk_norm h1]
theorem Is.unique {d d' : Dy} {S : Nat} {N : Int} (h : Is d S N) (h' : Is d' S N) : d = d' := by rw [h.mk, h'.mk]
theorem Is.up {d : Dy} {S : Nat} {N : Int} (h : Is d S N) (k : Nat) : Is d (S + k) (N * 2 ^ k) := by
  obtain ⟨m, e, h0, h1, h2, rfl⟩ := h
  refine ⟨m, e, h0, h1, by omega, ?_⟩
  rw [show (e + ((S + k : Nat) : Int)).toNat = (e + S).toNat + k by omega, Int.pow_add, Int.mul_assoc]

theorem blen_le_of_lt {a k : Nat} (h : a < 2 ^ k) : blen a ≤ k := by
  by_cases h0 : a = 0
  · subst h0; simp [blen]
  · obtain ⟨l, h1, h2, _⟩ := blen_spec h0
    rw [h1]
    have : 2 ^ l < 2 ^ k := by omega
    exact (Nat.pow_lt_pow_iff_right (by omega)).1 this

/-- what is far from the limits is representable -/
theorem Is.of_dmk {N : Int} {S B : Nat} (hS : S ≤ 65536) (hN : N.natAbs < 2 ^ B) (hB : B ≤ 65536) : Is (dmk N (-S)) S N := by
  by_cases h : N = 0
  · subst h; rw [dmk_zero]; exact ⟨0, 0, rfl, Or.inl ⟨rfl, rfl⟩, by omega, by simp⟩
  · have hb := blen_le_of_lt hN
    have hnd := dmk_nd N (-S)
    obtain ⟨m, h1, h2, h3⟩ := odd_part h
    have e : dmk N (-(S : Int)) = some (m, -(S : Int) + (tzf N.natAbs : Int)) := by
      unfold dmk
      rw [if_neg h, if_neg (by omega), h3]
    rw [e] at hnd ⊢
    refine ⟨_, _, rfl, hnd, by omega, ?_⟩
    rw [show (-(S : Int) + (tzf N.natAbs : Int) + S).toNat = tzf N.natAbs by omega]
    exact h1

theorem Is.neg {d : Dy} {S : Nat} {N : Int} (h : Is d S N) : Is (dneg d) S (-N) := by
  have hd := dneg_nd h.nd
  obtain ⟨m, e, rfl, h1, h2, rfl⟩ := h
  exact ⟨-m, e, rfl, hd, h2, by rw [Int.neg_mul]⟩
theorem Is.mul {d d' : Dy} {S T : Nat} {N M : Int} (h : Is d S N) (h' : Is d' T M) (hS : S + T ≤ 65536) {B : Nat} (hb : (N * M).natAbs < 2 ^ B) (hB : B ≤ 65536) : Is (dmul d d') (S + T) (N * M) := by
  have e : dmul d d' = dmk (N * M) (-((S + T : Nat) : Int)) := by
    obtain ⟨m, x, rfl, _, h2, rfl⟩ := h
    obtain ⟨n, y, rfl, _, h2', rfl⟩ := h'
    show dmk (m * n) (x + y) = _
    have : m * 2 ^ (x + S).toNat * (n * 2 ^ (y + T).toNat) = m * n * 2 ^ ((x + S).toNat + (y + T).toNat) := by
      rw [Int.pow_add, Int.mul_assoc, Int.mul_left_comm (2 ^ (x + S).toNat), ← Int.mul_assoc]
    rw [this, dmk_shift]
    congr 1; omega
  rw [e]
  exact Is.of_dmk hS hb hB

theorem Is.zero {d : Dy} {S : Nat} {N : Int} (h : Is d S N) : (∃ m e, d = some (m, e) ∧ (m = 0 ↔ N = 0) ∧ (m < 0 ↔ N < 0)) := by
  obtain ⟨m, e, rfl, h1, h2, rfl⟩ := h
  have hp := two_pos (e + S).toNat
  refine ⟨m, e, rfl, ⟨fun h => by rw [h, Int.zero_mul], fun h => ?_⟩, ⟨fun h => Int.mul_neg_of_neg_of_pos h hp, fun h => ?_⟩⟩
  · rcases Int.mul_eq_zero.1 h with h | h <;> omega
  · rcases Int.lt_or_le m 0 with h3 | h3
    · exact h3
    · have := Int.mul_nonneg h3 (Int.le_of_lt hp); omega
end Go.Proofs.YtekocoklfnojmaaDoor
