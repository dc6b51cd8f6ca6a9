import Derived.Test.YtolghagbpnjpgaaGreatDoorANormU16
import Derived.Test.YtolghagbpnjpgaaGreatDoorANormU28
import Derived.Test.YtolghagbpnjpgaaGreatDoorANormU26
import Derived.Test.YtolghagbpnjpgaaGreatDoorANormU27
import Derived.Test.YtolghagbpnjpgaaGreatDoorANormU3
import Derived.Test.YtolghagbpnjpgaaGreatDoorANormU18
namespace Go.Proofs.YtolghagbpnjpgaaGreatDoor

theorem root_more {M j : Nat} : isq (M * (2 ^ j * 2 ^ j)) / 2 ^ j = isq M ∧ (decide (isq (M * (2 ^ j * 2 ^ j)) * isq (M * (2 ^ j * 2 ^ j)) ≠ M * (2 ^ j * 2 ^ j)) || decide (isq (M * (2 ^ j * 2 ^ j)) % 2 ^ j ≠ 0)) = decide (isq M * isq M ≠ M) := by
  have hJ : 0 < 2 ^ j := Nat.pow_pos (by omega)
  generalize 2 ^ j = J at *
  have hsq : ∀ c : Nat, c * c * (J * J) = (c * J) * (c * J) := fun c => by rw [Nat.mul_mul_mul_comm]
  have hJJ : 0 < J * J := Nat.mul_pos hJ hJ
  have hL : ∀ c : Nat, c ≤ isq (M * (J * J)) / J ↔ c ≤ isq M := by
    intro c
    rw [Nat.le_div_iff_mul_le hJ, isq_le, isq_le, ← hsq]
    exact ⟨fun h => Nat.le_of_mul_le_mul_right h hJJ, fun h => Nat.mul_le_mul_right _ h⟩
  have hR : isq (M * (J * J)) / J = isq M := Nat.le_antisymm ((hL _).1 (Nat.le_refl _)) ((hL _).2 (Nat.le_refl _))
  refine ⟨hR, ?_⟩
  rw [← Bool.decide_or]
  apply decide_eq_decide.2
  constructor
  · intro h h2
    have h3 : M * (J * J) = (isq M * J) * (isq M * J) := by rw [← hsq, h2]
    have h4 : isq (M * (J * J)) = isq M * J := by rw [h3, isq_sq]
    rcases h with h | h
    · apply h; rw [h4, h3]
    · apply h; rw [h4]; exact Nat.mul_mod_left _ _
  · intro h
    by_cases h2 : isq (M * (J * J)) % J = 0
    · left
      intro h3
      have hd := Nat.div_add_mod (isq (M * (J * J))) J
      rw [h2, hR, Nat.add_zero, Nat.mul_comm] at hd
      rw [← hd, ← hsq] at h3
      exact h (Nat.eq_of_mul_eq_mul_right hJJ h3)
    · exact Or.inr h2
theorem fla_root {neg : Bool} {M j : Nat} {E mode : Int} (h : 2 ^ 53 ≤ isq M) :
    fla neg (isq (M * (2 ^ j * 2 ^ j))) E (decide (isq (M * (2 ^ j * 2 ^ j)) * isq (M * (2 ^ j * 2 ^ j)) ≠ M * (2 ^ j * 2 ^ j))) mode = fla neg (isq M) (E + j) (decide (isq M * isq M ≠ M)) mode := by
  obtain ⟨h1, h2⟩ := root_more (M := M) (j := j)
  have h3 := fla_tail neg (N := isq (M * (2 ^ j * 2 ^ j))) E (decide (isq (M * (2 ^ j * 2 ^ j)) * isq (M * (2 ^ j * 2 ^ j)) ≠ M * (2 ^ j * 2 ^ j))) mode j (by rw [h1]; exact h)
  rw [h1, h2] at h3
  exact h3.symm
/-- the program's root of a float is the reference's longer one -/
theorem root_long {neg : Bool} {mode : Int} {N A i s k : Nat} {E e : Int} (hN : N = A * 2 ^ i) (hexp : 2 * E + s = e) (hev : (e + i - (k : Int)) % 2 = 0) (h1 : 2 ^ 53 ≤ isq (N * 2 ^ s)) (h2 : 2 ^ 53 ≤ isq (A * 2 ^ k)) :
    fla neg (isq (N * 2 ^ s)) E (decide (isq (N * 2 ^ s) * isq (N * 2 ^ s) ≠ N * 2 ^ s)) mode = fla neg (isq (A * 2 ^ k)) ((e + i - (k : Int)) / 2) (decide (isq (A * 2 ^ k) * isq (A * 2 ^ k) ≠ A * 2 ^ k)) mode := by
  have e1 : N * 2 ^ s = A * 2 ^ (i + s) := by rw [hN, Nat.mul_assoc, ← Nat.pow_add]
  rw [e1] at h1 ⊢
  rcases Nat.le_total k (i + s) with h | h
  · obtain ⟨j, hj⟩ : ∃ j, i + s = k + (j + j) := ⟨(i + s - k) / 2, by omega⟩
    have e2 : A * 2 ^ (i + s) = A * 2 ^ k * (2 ^ j * 2 ^ j) := by rw [hj, Nat.pow_add, ← Nat.mul_assoc, Nat.pow_add 2 j j]
    rw [e2, fla_root h2]
    congr 1
    omega
  · obtain ⟨j, hj⟩ : ∃ j, k = i + s + (j + j) := ⟨(k - (i + s)) / 2, by omega⟩
    have e2 : A * 2 ^ k = A * 2 ^ (i + s) * (2 ^ j * 2 ^ j) := by rw [hj, Nat.pow_add, ← Nat.mul_assoc, Nat.pow_add 2 j j]
    rw [e2, fla_root h1]
    congr 1
    omega
end Go.Proofs.YtolghagbpnjpgaaGreatDoor

namespace Go.Proofs.YtolghagbpnjpgaaGreatDoor

theorem root_big {A k : Nat} (hA : A ≠ 0) (hk : 2 * ((60 : Nat) : Int) + 4 - (blen A : Int) ≤ (k : Nat)) : 2 ^ 61 ≤ isq (A * 2 ^ k) := by
  rw [isq_le, ← Nat.pow_add]
  have h2 : 2 ^ (blen A - 1) ≤ A := by
    have := Nat.log2_self_le hA
    have e : blen A - 1 = Nat.log2 A := by unfold blen; rw [if_neg hA]; omega
    rw [e]; exact this
  have hb : 1 ≤ blen A := by unfold blen; rw [if_neg hA]; omega
  refine Nat.le_trans ?_ (Nat.mul_le_mul_right _ h2)
  rw [← Nat.pow_add]
  exact Nat.pow_le_pow_right (by omega) (by omega)
theorem big_place {Q : Nat} {e : Int} (h : 2 ^ 61 ≤ Q) : e < fplace Q e := by
  have h0 : Q ≠ 0 := by have : 0 < 2 ^ 61 := Nat.pow_pos (by omega); omega
  have h1 : 61 ≤ Nat.log2 Q := (Nat.le_log2 h0).2 h
  unfold fplace
  omega
theorem big_53 {Q : Nat} (h : 2 ^ 61 ≤ Q) : 2 ^ 53 ≤ Q := Nat.le_trans (Nat.pow_le_pow_right (by omega) (by omega)) h
theorem big_ne {Q : Nat} (h : 2 ^ 61 ≤ Q) : Q ≠ 0 := by have : 0 < 2 ^ 61 := Nat.pow_pos (by omega); omega
/-- two lengths of a root that suffice give the same float -/
theorem fla_root_any {neg : Bool} {mode : Int} {A k k' : Nat} {e : Int} (hev : (e - (k : Int)) % 2 = 0) (hev' : (e - (k' : Int)) % 2 = 0) (h : 2 ^ 53 ≤ isq (A * 2 ^ k)) (h' : 2 ^ 53 ≤ isq (A * 2 ^ k')) :
    fla neg (isq (A * 2 ^ k)) ((e - (k : Int)) / 2) (decide (isq (A * 2 ^ k) * isq (A * 2 ^ k) ≠ A * 2 ^ k)) mode = fla neg (isq (A * 2 ^ k')) ((e - (k' : Int)) / 2) (decide (isq (A * 2 ^ k') * isq (A * 2 ^ k') ≠ A * 2 ^ k')) mode := by
  have h3 := root_long (neg := neg) (mode := mode) (N := A) (A := A) (i := 0) (s := k) (k := k') (E := (e - (k : Int)) / 2) (e := e) (by omega) (by omega) (by omega) h h'
  rw [h3]
  congr 1
  omega
/-- how far a root is taken -/
def rootK (A : Nat) (e : Int) : Nat := 126 - blen A + ((e - ((126 - blen A : Nat) : Int)) % 2).toNat
theorem rootK_ok {A : Nat} {e : Int} : 2 * ((60 : Nat) : Int) + 4 - (blen A : Int) ≤ (rootK A e : Nat) ∧ (e - (rootK A e : Int)) % 2 = 0 := by
  unfold rootK; omega
/-- the root of a dyad, as a float -/
noncomputable def rootV (d : Dy) (mode : Int) : Nat :=
  match d with
  | some (m, e) =>
    if m < 0 then 9221120237041090560
    else if m = 0 then 0
    else fla false (isq (m.natAbs * 2 ^ rootK m.natAbs e)) ((e - (rootK m.natAbs e : Int)) / 2) (decide (isq (m.natAbs * 2 ^ rootK m.natAbs e) * isq (m.natAbs * 2 ^ rootK m.natAbs e) ≠ m.natAbs * 2 ^ rootK m.natAbs e)) mode
  | none => 9221120237041090560
theorem rootV_any {A k : Nat} {e mode : Int} (hA : A ≠ 0) (hk : 2 * ((60 : Nat) : Int) + 4 - (blen A : Int) ≤ (k : Nat)) (hev : (e - (k : Int)) % 2 = 0) :
    flr false (isq (A * 2 ^ k)) ((e - (k : Int)) / 2) (decide (isq (A * 2 ^ k) * isq (A * 2 ^ k) ≠ A * 2 ^ k)) mode = rootV (some ((A : Int), e)) mode := by
  unfold rootV
  dsimp only
  rw [if_neg (by omega), if_neg (by omega), Int.natAbs_natCast]
  unfold flr
  rw [if_neg (by decide), Nat.zero_add]
  obtain ⟨h1, h2⟩ := rootK_ok (A := A) (e := e)
  exact fla_root_any hev h2 (big_53 (root_big hA hk)) (big_53 (root_big hA h1))
end Go.Proofs.YtolghagbpnjpgaaGreatDoor

namespace Go.Proofs.YtolghagbpnjpgaaGreatDoor

theorem absF_lt63 (f : Nat) : fabsF f < 9223372036854775808 := by have := fmag_lt f; unfold fabsF; split <;> omega
theorem fdy_abs (f : Nat) : fdy (fabsF f) = dabs (fdy f) := by
  cases h : finB f with
  | false =>
    have h1 : ¬ fmag f < 9218868437227405312 := of_decide_eq_false h
    have h2 : finB (fabsF f) = false := by
      refine decide_eq_false ?_
      have h3 := fmag_lt f
      have h4 : fmag (fabsF f) = fabsF f := Nat.mod_eq_of_lt (absF_lt63 f)
      rw [h4]
      unfold fabsF
      split <;> omega
    rw [fdy_none h, fdy_none h2]
    rfl
  | true =>
    obtain ⟨h1, h2, h3, h4, h5⟩ := fabs_facts h
    have i1 := fdy_is h2
    have i2 := (fdy_is h).abs
    rw [fzs_abs] at i2
    rw [h4] at i1
    exact (is_eq i1 i2).2 rfl
/-- the greatest absolute value -/
def gmax (l : List Nat) : Nat := l.foldl (fun g f => max g (fabsF f)) 0
theorem gmax_snoc {l : List Nat} {j : Nat} (hj : j < l.length) : gmax (l.take (j + 1)) = max (gmax (l.take j)) (fabsF (l.getD j 0)) := by
  unfold gmax
  rw [List.take_succ_eq_append_getElem hj, List.foldl_append]
  simp [List.getD, hj]
theorem fold_max (l : List Nat) (g : Nat) : (l.foldl (fun g f => max g (fabsF f)) g < 9223372036854775808 ↔ g < 9223372036854775808) ∧ (l.foldl (fun g f => max g (fabsF f)) g < 9218868437227405312 ↔ (g < 9218868437227405312 ∧ ∀ f ∈ l, fabsF f < 9218868437227405312)) := by
  induction l generalizing g with
  | nil => simp
  | cons f l ih =>
    obtain ⟨i1, i2⟩ := ih (max g (fabsF f))
    have h := absF_lt63 f
    rw [List.foldl_cons]
    refine ⟨?_, ?_⟩
    · rw [i1]; omega
    · rw [i2]
      constructor
      · rintro ⟨h1, h2⟩
        refine ⟨by omega, fun x hx => ?_⟩
        rcases List.mem_cons.1 hx with rfl | hx
        · omega
        · exact h2 x hx
      · rintro ⟨h1, h2⟩
        have := h2 f (List.mem_cons_self ..)
        exact ⟨by omega, fun x hx => h2 x (List.mem_cons_of_mem _ hx)⟩
theorem gmax_lt (l : List Nat) : gmax l < 9223372036854775808 := (fold_max l 0).1.2 (by omega)
theorem fin_small {g : Nat} (h : g < 9223372036854775808) : finB g = decide (g < 9218868437227405312) := by
  have h4 : fmag g = g := Nat.mod_eq_of_lt h
  unfold finB
  rw [h4]
theorem fin_abs (f : Nat) : finB f = decide (fabsF f < 9218868437227405312) := by
  have h1 := fmag_lt f
  unfold finB fabsF nanB
  by_cases h : 9218868437227405312 < fmag f
  · rw [decide_eq_true h, if_pos rfl, decide_eq_false (by omega), decide_eq_false (by omega)]
  · rw [decide_eq_false h, if_neg (by decide)]
theorem gmax_fin (l : List Nat) : finB (gmax l) = l.all finB := by
  rw [fin_small (gmax_lt l), Bool.eq_iff_iff, decide_eq_true_iff, List.all_eq_true]
  rw [show gmax l = l.foldl (fun g f => max g (fabsF f)) 0 from rfl, (fold_max l 0).2]
  constructor
  · rintro ⟨_, h⟩ x hx
    rw [fin_abs]
    exact decide_eq_true (h x hx)
  · intro h
    refine ⟨by omega, fun x hx => ?_⟩
    have := h x hx
    rw [fin_abs] at this
    exact of_decide_eq_true this
theorem frank_small {a : Nat} (h : a < 9223372036854775808) : frank a = (a : Int) := by
  have h1 : fmag a = a := Nat.mod_eq_of_lt h
  have h2 : fneg a = false := by unfold fneg; exact decide_eq_false (by omega)
  unfold frank
  rw [h2, h1]
  simp
/-- a greater absolute value, compared as dyads -/
theorem norm_cmp {a g : Nat} (ha : a < 9223372036854775808) (hg : g < 9223372036854775808) (fa : finB a = true) (fg : finB g = true) : sgn3 (sc (fdy a)) (sc (fdy g)) > 0 ↔ g < a := by
  rw [fdy_rank fa fg, frank_small ha, frank_small hg]
  unfold sgn3
  split
  · omega
  · split <;> omega
theorem all_take {l : List Nat} (h : l.all finB = true) (j : Nat) : finB (gmax (l.take j)) = true := by
  rw [gmax_fin, List.all_eq_true]
  intro x hx
  exact List.all_eq_true.1 h x (List.mem_of_mem_take hx)
theorem fdy_gmax_bad {l : List Nat} (h : l.all finB = false) : fdy (gmax l) = none := fdy_none (by rw [gmax_fin]; exact h)
theorem gmax_nil : gmax ([] : List Nat) = 0 := rfl
theorem map_abs (l : List Nat) : (l.map fabsF).map fdy = l.map (fun f => dabs (fdy f)) := by
  rw [List.map_map]
  exact List.map_congr_left fun f _ => fdy_abs f
theorem dot_err (x : List Nat) : (dotR x x).2 = 0 ∨ (dotR x x).2 = 4 := by
  unfold dotR
  rw [if_neg (by omega)]
  unfold chkE
  split
  · exact Or.inr rfl
  · exact Or.inl rfl
/-- the root of the sum of squares -/
noncomputable def norm2 (l : List Nat) (mode : Int) : Nat := if (dotR l l).2 = 0 then rootV (dotR l l).1 mode else 9221120237041090560
end Go.Proofs.YtolghagbpnjpgaaGreatDoor

namespace Go.Proofs.YtolghagbpnjpgaaGreatDoor
open Go.RowKit

theorem kind_fields {f q r : Nat} (hq : f / 4503599627370496 % 2048 = q) (hr : f % 4503599627370496 = r) : fmag f = q * 4503599627370496 + r ∧ q < 2048 ∧ r < 4503599627370496 := by
  unfold fmag
  omega
theorem and_fields (f : Nat) (hf : f < 18446744073709551616) : bits BinOp.and IntKind.u64 ((f : Int) / 4503599627370496) 2047 = ((f / 4503599627370496 % 2048 : Nat) : Int) ∧ bits BinOp.and IntKind.u64 (f : Int) 4503599627370495 = ((f % 4503599627370496 : Nat) : Int) := by
  have h1 : (f : Int) / 4503599627370496 = ((f / 4503599627370496 : Nat) : Int) := (Int.natCast_ediv _ _).symm
  have h2 := bits_and_u64_nat (f / 4503599627370496) 2047 (by omega) (by omega)
  rw [show (2047 : Nat) = 2 ^ 11 - 1 from rfl, Nat.and_two_pow_sub_one_eq_mod] at h2
  have h3 := bits_and_u64_nat f 4503599627370495 (by omega) (by omega)
  rw [show (4503599627370495 : Nat) = 2 ^ 52 - 1 from rfl, Nat.and_two_pow_sub_one_eq_mod] at h3
  rw [h1]
  exact ⟨h2, h3⟩

set_option maxRecDepth 100000 in
set_option maxHeartbeats 1000000 in
theorem refKind_any (f : Nat) (hf : f < 18446744073709551616) (w : World) :
    Calls Tryz.prog 129 #[.int .u64 (f : Int)] w fun e w' => e = .returned (.int .i64 (fkind f)) ∧ w = w' := by
  obtain ⟨h1, h2⟩ := and_fields f hf
  obtain ⟨q, hq⟩ : ∃ q : Nat, f / 4503599627370496 % 2048 = q := ⟨_, rfl⟩
  obtain ⟨r, hr⟩ : ∃ r : Nat, f % 4503599627370496 = r := ⟨_, rfl⟩
  obtain ⟨hm, hq', hr'⟩ := kind_fields hq hr
  rw [hq] at h1
  rw [hr] at h2
  have hk := fkind_cases f
  rw [hm] at hk
  generalize fkind f = k at *
  clear hq hr hm hf
  by_cases c1 : q = 2047
  · have b1 : ((q : Int) == 2047) = true := by rw [beq_iff_eq]; omega
    by_cases c2 : r = 0
    · obtain rfl : k = 2 := by omega
      have b2 : ((r : Int) != 0) = false := by simp; omega
      clear hk c1 c2 hq' hr'
      go_enter Tryz.func129, Tryz.ntmps129
      go_wp2
      go_ret
      exact ⟨rfl, rfl⟩
    · obtain rfl : k = 3 := by omega
      have b2 : ((r : Int) != 0) = true := by simp; omega
      clear hk c1 c2 hq' hr'
      go_enter Tryz.func129, Tryz.ntmps129
      go_wp2
      go_ret
      exact ⟨rfl, rfl⟩
  · have b1 : ((q : Int) == 2047) = false := by rw [beq_eq_false_iff_ne]; omega
    by_cases c2 : q = 0
    · have b3 : ((q : Int) == 0) = true := by rw [beq_iff_eq]; omega
      by_cases c3 : r = 0
      · obtain rfl : k = 0 := by omega
        have b4 : ((r : Int) == 0) = true := by rw [beq_iff_eq]; omega
        clear hk c1 c2 c3 hq' hr'
        go_enter Tryz.func129, Tryz.ntmps129
        go_wp2
        go_ret
        exact ⟨rfl, rfl⟩
      · obtain rfl : k = 1 := by omega
        have b4 : ((r : Int) == 0) = false := by rw [beq_eq_false_iff_ne]; omega
        clear hk c1 c2 c3 hq' hr'
        go_enter Tryz.func129, Tryz.ntmps129
        go_wp2
        go_ret
        exact ⟨rfl, rfl⟩
    · obtain rfl : k = 1 := by omega
      have b3 : ((q : Int) == 0) = false := by rw [beq_eq_false_iff_ne]; omega
      clear hk c1 c2 hq' hr'
      go_enter Tryz.func129, Tryz.ntmps129
      go_wp2
      go_ret
      exact ⟨rfl, rfl⟩

theorem kind_nan (f : Nat) : (fkind f == 3) = nanB f := by
  have h := fkind_cases f
  unfold nanB
  generalize fkind f = k at *
  generalize fmag f = m at *
  by_cases h1 : 9218868437227405312 < m
  · rw [decide_eq_true h1, beq_iff_eq]; omega
  · rw [decide_eq_false h1, beq_eq_false_iff_ne]; omega

set_option maxRecDepth 100000 in
theorem refNan_any (f : Nat) (hf : f < 18446744073709551616) (b : Bool) (hb : nanB f = b) (w : World) :
    Calls Tryz.prog 56 #[.int .u64 (f : Int)] w fun e w' => e = .returned (.bool b) ∧ w = w' := by
  have hk := kind_nan f
  rw [hb] at hk
  have HK := Lib.hid hk
  clear hk hb
  go_enter Tryz.func56, Tryz.ntmps56
  go_wp2_with fail
  refine (refKind_any f hf _).mono ?_
  rintro e w' ⟨rfl, rfl⟩
  go_wp2
  go_ret
  exact ⟨ret_bool HK.out, rfl⟩

set_option maxRecDepth 100000 in
theorem refMinus_any (f : Nat) (hf : f < 18446744073709551616) (b : Bool) (hb : fneg f = b) (w : World) :
    Calls Tryz.prog 66 #[.int .u64 (f : Int)] w fun e w' => e = .returned (.bool b) ∧ w = w' := by
  have ha := and_sign hf
  rw [hb] at ha
  clear hb
  cases b
  all_goals
    unfold sgz at ha
    simp only [if_true, Bool.false_eq_true, if_false] at ha
    go_enter Tryz.func66, Tryz.ntmps66
    go_wp2
    go_ret
    exact ⟨ret_bool (by first | rfl | decide | simp), rfl⟩

end Go.Proofs.YtolghagbpnjpgaaGreatDoor
