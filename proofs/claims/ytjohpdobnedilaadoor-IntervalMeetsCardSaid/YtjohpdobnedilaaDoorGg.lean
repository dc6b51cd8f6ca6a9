/- More of what each function adds to the integers at hand: quotients, signs, comparisons. -/
import Derived.Test.YtjohpdobnedilaaDoorGc
import Derived.Test.YtjohpdobnedilaaDoorGd
import Derived.Test.YtjohpdobnedilaaDoorGe
import Derived.Test.YtjohpdobnedilaaDoorGf
import Derived.WalkKit
import Derived.WalkSmall
import Derived.Lib.Hide
namespace Go.Proofs.YtjohpdobnedilaaDoor
open Go.RowKit

section
variable {W w : World} {L : List Ent} {u v : Value} {x y : Int} {N M : Nat} {c d : Bool}

theorem refSign_bag (h : St W w L) (h1 : ⟨u, x, N, c⟩ ∈ L) (s : Int) (hs : sgn3 x 0 = s) :
    Calls Tryd.prog 84 #[u] w fun e w' => e = .returned (.int .i64 s) ∧ St W w' L := by
  obtain ⟨nb, ao, n, ca, rfl, b1, n1, a1, _⟩ := h.bag _ h1
  exact (refSign_any nb ao n ca x w b1).mono fun e w' ⟨he, hw⟩ => ⟨by rw [he, hs], h.step hw⟩

end

theorem St.alloc {W w : World} {L : List Ent} (h : St W w L) (o : Obj) : St W (w.alloc o) L := h.step ((Below.refl _ w).alloc (Nat.le_refl _) o)

theorem Ent.Ok.only_box {w w' : World} {p : Ent} {g : Nat} {nb : Bool} {ao : Option Addr} {n ca : Nat} (h : p.Ok w) (hb : Box w g nb ao n ca) (ho : Only g w w') : p.Ok w' := by
  obtain ⟨nb, ao, n, ca, h1, ⟨⟨zs, h2, h2'⟩, h2''⟩, h3, h4, h5⟩ := h
  exact ⟨nb, ao, n, ca, h1, ⟨⟨zs, h2.only_box hb ho, h2'⟩, h2''⟩, h3, h4, fun e => ⟨(h5 e).neg, (h5 e).sl.only_box hb ho⟩⟩

/-- a variable of this call's own is written -/
theorem St.stored {W w : World} {L : List Ent} {g : Nat} {nb : Bool} {ao : Option Addr} {n ca : Nat} (h : St W w L) (hb : Box w g nb ao n ca) (hg : W.heap.size ≤ g) (mb : Bool) (bo : Option Addr) (m cb : Nat) :
    St W ((w.setCell ⟨g, 0, none⟩ (.bool mb)).setCell ⟨g, 1, none⟩ (.slice bo m cb)) L :=
  ⟨Below.trans h.ext ((only_set2 w g _ _).below hg), fun p hp => (h.bag p hp).only_box hb (only_set2 w g _ _)⟩

/-- a new variable behind a call -/
theorem box_after {w wn : World} {nb : Bool} {ao : Option Addr} {n ca : Nat} (h : Ext (w.alloc (.cells #[.bool nb, .slice ao n ca] 41)) wn) : Box wn w.heap.size nb ao n ca :=
  (Box.new w nb ao n ca).below h
end Go.Proofs.YtjohpdobnedilaaDoor

/- More of what each function adds to the integers at hand: shifts, bit lengths, trailing zeros. -/
namespace Go.Proofs.YtjohpdobnedilaaDoor
open Go.RowKit

theorem limb_pow (e : Nat) : 4294967296 ^ e = 2 ^ (32 * e) := by rw [Nat.pow_mul]

theorem two_pow_le' {k e : Nat} (h : k ≤ 32 * e) : 2 ^ k ≤ 4294967296 ^ e := by rw [limb_pow]; exact Nat.pow_le_pow_right (by omega) h

theorem two_pow_le {k : Nat} (hk : k < 512) : 2 ^ k ≤ 4294967296 ^ 16 := two_pow_le' (by omega)

theorem blen_le {a e : Nat} (h : a < 4294967296 ^ e) : blen a ≤ 32 * e := by
  rw [limb_pow] at h
  by_cases h0 : a = 0
  · unfold blen; rw [if_pos h0]; omega
  · have h1 : blen a = Nat.log2 a + 1 := by unfold blen; rw [if_neg h0]
    have h2 := (Nat.log2_lt h0).2 h
    omega

theorem tz_le {a t e : Nat} (ht : IsTz a t) (h0 : a ≠ 0) (h : a < 4294967296 ^ e) : t ≤ 32 * e := by
  rw [limb_pow] at h
  have h1 := ht.dvd h0 (32 * e)
  rw [Nat.mod_eq_of_lt h] at h1
  have := h1.2 h0
  omega

theorem natAbs_mul_pow (x : Int) (k : Nat) : (x * 2 ^ k).natAbs = x.natAbs * 2 ^ k := by
  rw [Int.natAbs_mul, Int.natAbs_pow]; rfl

theorem isTz_exists (a : Nat) : ∃ t, IsTz a t := by
  by_cases h : a = 0
  · exact ⟨0, Or.inl ⟨h, rfl⟩⟩
  · obtain ⟨m, hm, _⟩ := Lib.ctzFrom_spec a a (by omega) (Nat.lt_two_pow_self)
    exact ⟨_, Or.inr ⟨h, m, hm⟩⟩

section
variable {W w : World} {L : List Ent} {u : Value} {x : Int} {N : Nat} {c : Bool}

end
end Go.Proofs.YtjohpdobnedilaaDoor
