import Derived.Test.YtkomhemjodbkpaaDoorTxOrdU39
import Derived.Test.YtkomhemjodbkpaaDoorTxOrdU40
import Derived.Test.YtkomhemjodbkpaaDoorTxOrdU16
import Derived.Test.YtkomhemjodbkpaaDoorTxOrdU26
import Derived.Test.YtkomhemjodbkpaaDoorTxOrdU0
import Derived.Test.YtkomhemjodbkpaaDoorTxOrdU27
import Derived.Test.YtkomhemjodbkpaaDoorTxOrdU15
import Derived.Test.YtkomhemjodbkpaaDoorTxOrdU41
import Derived.Deep.RegionHeld3
namespace Go.Proofs.YtkomhemjodbkpaaDoor
open Go Go.RowKit
open Go.Lib (decDigits)

theorem parse_texI (x : Int) (h : (decDigits x.natAbs).length ≤ 1000) : parseSays (texI x) = (x, 0) := by
  have hd := dec_digits x.natAbs
  have hne := dec_ne x.natAbs
  have hh := horn_dec x.natAbs
  have hall : (decDigits x.natAbs).all isDig = true := List.all_eq_true.2 hd
  unfold parseSays
  by_cases hx : x < 0
  · have ht : texI x = 45 :: decDigits x.natAbs := by unfold texI; rw [if_pos hx]; rfl
    have h1 : digitsOf (45 :: decDigits x.natAbs) = decDigits x.natAbs := rfl
    have h2 : ((45 :: decDigits x.natAbs).getD 0 0).toNat = 45 := rfl
    rw [ht, h1, h2, if_neg (by rw [List.length_cons]; omega), hall, hh]
    have h3 : (decDigits x.natAbs).length ≠ 0 := fun e => hne (List.eq_nil_of_length_eq_zero e)
    rw [if_pos (by simp [h3]), if_pos (by simp)]
    congr 1
    omega
  · have ht : texI x = decDigits x.natAbs := by unfold texI; rw [if_neg hx]; rfl
    rw [ht]
    obtain ⟨c, l, hcl⟩ : ∃ c l, decDigits x.natAbs = c :: l := by
      cases hc : decDigits x.natAbs with
      | nil => exact absurd hc hne
      | cons c l => exact ⟨c, l, rfl⟩
    have hcd : isDig c = true := hd c (by rw [hcl]; exact List.mem_cons_self)
    have hc2 : 48 ≤ c.toNat := by unfold isDig at hcd; simp at hcd; exact hcd.1
    have hg : (decDigits x.natAbs).getD 0 0 = c := by rw [hcl]; rfl
    have h1 : digitsOf (decDigits x.natAbs) = decDigits x.natAbs := by
      unfold digitsOf
      rw [hg, if_neg (by simp; omega)]
    have h3 : (decDigits x.natAbs).length ≠ 0 := fun e => hne (List.eq_nil_of_length_eq_zero e)
    rw [h1, hg, if_neg (by omega), hall, hh, if_pos (by simp [h3]), if_neg (by simp; omega)]
    congr 1
    omega
theorem texI_inj {x y : Int} (hx : (decDigits x.natAbs).length ≤ 1000) (hy : (decDigits y.natAbs).length ≤ 1000) (h : texI x = texI y) : x = y := by
  have h1 := parse_texI x hx
  rw [h, parse_texI y hy] at h1
  exact (congrArg Prod.fst h1).symm
theorem dec_limbs40 {a : Nat} (h : a < 4294967296 ^ 40) : (decDigits a).length ≤ 1000 := by
  have h6 : 4294967296 ^ 40 ≤ (10 ^ 10) ^ 40 := Nat.pow_le_pow_left (by omega) 40
  rw [← Nat.pow_mul] at h6
  have := dec_len (k := 10 * 40) (r := a) (by omega) (by omega)
  omega
end Go.Proofs.YtkomhemjodbkpaaDoor

namespace Go.Proofs.YtkomhemjodbkpaaDoor
open Go Go.RowKit

theorem sgn3_sub (x y : Int) : sgn3 (x - y) 0 = sgn3 x y := by unfold sgn3; split <;> (try split) <;> (try split) <;> (try split) <;> omega
theorem sgn3_add (x y z : Int) : sgn3 (x + z) (y + z) = sgn3 x y := by unfold sgn3; split <;> (try split) <;> (try split) <;> (try split) <;> omega
theorem sgn3_flip (x y : Int) : sgn3 y x = -sgn3 x y := by unfold sgn3; split <;> (try split) <;> (try split) <;> (try split) <;> omega
theorem sgn3_le (x y : Int) : -1 ≤ sgn3 x y ∧ sgn3 x y ≤ 1 := by unfold sgn3; split <;> (try split) <;> omega
theorem sgn3_same (x y : Int) : sgn3 x y = 0 ↔ x = y := by unfold sgn3; split <;> (try split) <;> omega
theorem sgn3_trans (x y z : Int) (h : sgn3 x y = sgn3 y z) : sgn3 x z = sgn3 x y := by
  unfold sgn3 at h ⊢
  by_cases h1 : x < y <;> by_cases h2 : y < x <;> by_cases h3 : y < z <;> by_cases h4 : z < y <;> simp only [h1, h2, h3, h4, if_true, if_false] at h ⊢ <;> (split <;> (try split) <;> omega)
theorem int_bagI {W w : World} {L : List Ent} {u : Value} {x : Int} {N : Nat} {c : Bool} (h : St W w L) (h1 : ⟨u, x, N, c⟩ ∈ L) (hr : -9223372036854775808 ≤ x ∧ x ≤ 9223372036854775807) :
    Calls Tryd.prog 16 #[u] w fun e w' => e = .returned (.tuple #[.int .i64 x, .bool true]) ∧ St W w' L := by
  obtain ⟨nb, ao, n, ca, rfl, b1, n1, a1, _⟩ := h.bag _ h1
  refine (int_any nb ao n ca x w b1).mono fun e w' ⟨he, hw⟩ => ⟨?_, h.step hw⟩
  rw [he, (fits_yes hr).1, (fits_yes hr).2]
end Go.Proofs.YtkomhemjodbkpaaDoor
