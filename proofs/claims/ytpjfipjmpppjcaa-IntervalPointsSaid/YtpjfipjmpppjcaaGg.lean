/- More of what each function adds to the integers at hand: quotients, signs, comparisons. -/
import Derived.Test.YtpjfipjmpppjcaaGc
import Derived.Test.YtpjfipjmpppjcaaGd
import Derived.Test.YtpjfipjmpppjcaaGe
import Derived.Test.YtpjfipjmpppjcaaGf
import Derived.WalkKit
import Derived.WalkSmall
import Derived.Lib.Hide
namespace Go.Proofs.Ytpjfipjmpppjcaa
open Go.RowKit

section
variable {W w : World} {L : List Ent} {u v : Value} {x y : Int} {N M : Nat} {c d : Bool}

end

theorem St.alloc {W w : World} {L : List Ent} (h : St W w L) (o : Obj) : St W (w.alloc o) L := h.step ((Below.refl _ w).alloc (Nat.le_refl _) o)

end Go.Proofs.Ytpjfipjmpppjcaa

/- More of what each function adds to the integers at hand: shifts, bit lengths, trailing zeros. -/
namespace Go.Proofs.Ytpjfipjmpppjcaa
open Go.RowKit

theorem limb_pow (e : Nat) : 4294967296 ^ e = 2 ^ (32 * e) := by rw [Nat.pow_mul]

theorem two_pow_le' {k e : Nat} (h : k ≤ 32 * e) : 2 ^ k ≤ 4294967296 ^ e := by rw [limb_pow]; exact Nat.pow_le_pow_right (by omega) h

theorem two_pow_le {k : Nat} (hk : k < 512) : 2 ^ k ≤ 4294967296 ^ 16 := two_pow_le' (by omega)

theorem blen_le {a e : Nat} (h : a < 4294967296 ^ e) : blen a ≤ 32 * e := by
  rw [limb_pow] at h
  by_cases h0 : a = 0
  · unfold blen; rw [if_pos h0]; omega
  · have h1 : blen a = Nat.log2 a + 1 := by unfold blen; rw [if_neg h0]
    have h2 := (Nat.log2_lt h0).2 h
    omega

theorem tz_le {a t e : Nat} (ht : IsTz a t) (h0 : a ≠ 0) (h : a < 4294967296 ^ e) : t ≤ 32 * e := by
  rw [limb_pow] at h
  have h1 := ht.dvd h0 (32 * e)
  rw [Nat.mod_eq_of_lt h] at h1
  have := h1.2 h0
  omega

theorem natAbs_mul_pow (x : Int) (k : Nat) : (x * 2 ^ k).natAbs = x.natAbs * 2 ^ k := by
  rw [Int.natAbs_mul, Int.natAbs_pow]; rfl

theorem isTz_exists (a : Nat) : ∃ t, IsTz a t := by
  by_cases h : a = 0
  · exact ⟨0, Or.inl ⟨h, rfl⟩⟩
  · obtain ⟨m, hm, _⟩ := Lib.ctzFrom_spec a a (by omega) (Nat.lt_two_pow_self)
    exact ⟨_, Or.inr ⟨h, m, hm⟩⟩

section
variable {W w : World} {L : List Ent} {u : Value} {x : Int} {N : Nat} {c : Bool}

end
end Go.Proofs.Ytpjfipjmpppjcaa
