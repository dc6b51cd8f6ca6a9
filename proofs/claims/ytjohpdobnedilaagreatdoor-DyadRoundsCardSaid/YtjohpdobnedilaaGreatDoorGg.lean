/- More of what each function adds to the integers at hand: quotients, signs, comparisons. -/
import Derived.Test.YtjohpdobnedilaaGreatDoorGc
import Derived.Test.YtjohpdobnedilaaGreatDoorGd
import Derived.Test.YtjohpdobnedilaaGreatDoorGe
import Derived.Test.YtjohpdobnedilaaGreatDoorGf
import Derived.WalkKit
import Derived.WalkSmall
import Derived.Lib.Hide
namespace Go.Proofs.YtjohpdobnedilaaGreatDoor
open Go.RowKit

section
variable {W w : World} {L : List Ent} {u v : Value} {x y : Int} {N M : Nat} {c d : Bool}

theorem divMod_bag (h : St W w L) (h1 : ⟨u, x, N, c⟩ ∈ L) (h2 : ⟨v, y, M, d⟩ ∈ L) (hN : N ≤ 100000) (hM : M ≤ 100000) (hy : y ≠ 0) :
    Calls Tryz.prog 105 #[u, v] w fun e w' => ∃ qn qo qk qc rn ro rk rc, e = .returned (.tuple #[.agg #[.bool qn, .slice qo qk qc], .agg #[.bool rn, .slice ro rk rc], .int .i64 0]) ∧
      Bn w' qn qo qk qc (x / y) ∧ Bn w' rn ro rk rc (x % y) ∧ St W w' (⟨.agg #[.bool qn, .slice qo qk qc], x / y, N, true⟩ :: ⟨.agg #[.bool rn, .slice ro rk rc], x % y, M, true⟩ :: L) := by
  obtain ⟨nb, ao, n, ca, rfl, b1, n1, a1, _⟩ := h.bag _ h1
  obtain ⟨mb, bo, m, cb, rfl, b2, n2, a2, _⟩ := h.bag _ h2
  simp only at n1 n2 a1 a2 b1 b2
  refine (divMod_any nb mb ao n ca bo m cb x y w b1 b2 hy (by omega) (div_says _ _ (by omega))).mono fun e w' ⟨qn, qo, qk, qc, rn, ro, rk, rc, he, hq, hr, hw⟩ => ⟨qn, qo, qk, qc, rn, ro, rk, rc, he, hq, hr, ?_⟩
  have q1 := Int.natAbs_ediv_le_natAbs x y
  have r1 : (x % y).natAbs < y.natAbs := by
    have := Int.emod_nonneg x hy
    have := Int.emod_lt x hy
    omega
  refine St.push (W := W) (St.push (W := W) h hw (ok_bn hr (N := M) (by omega) (by omega))) (Ext.refl _) (ok_bn hq (by omega) (by omega))

theorem sign_bag (h : St W w L) (h1 : ⟨u, x, N, c⟩ ∈ L) (s : Int) (hs : sgn3 x 0 = s) :
    Calls Tryz.prog 104 #[u] w fun e w' => e = .returned (.int .i64 s) ∧ St W w' L := by
  obtain ⟨nb, ao, n, ca, rfl, b1, n1, a1, _⟩ := h.bag _ h1
  exact (sign_any nb ao n ca x w b1).mono fun e w' ⟨he, hw⟩ => ⟨by rw [he, hs], h.step hw⟩

theorem refSign_bag (h : St W w L) (h1 : ⟨u, x, N, c⟩ ∈ L) (s : Int) (hs : sgn3 x 0 = s) :
    Calls Tryz.prog 54 #[u] w fun e w' => e = .returned (.int .i64 s) ∧ St W w' L := by
  obtain ⟨nb, ao, n, ca, rfl, b1, n1, a1, _⟩ := h.bag _ h1
  exact (refSign_any nb ao n ca x w b1).mono fun e w' ⟨he, hw⟩ => ⟨by rw [he, hs], h.step hw⟩

theorem cmp_bag (h : St W w L) (h1 : ⟨u, x, N, c⟩ ∈ L) (h2 : ⟨v, y, M, d⟩ ∈ L) (s : Int) (hs : sgn3 x y = s) :
    Calls Tryz.prog 108 #[u, v] w fun e w' => e = .returned (.int .i64 s) ∧ St W w' L := by
  obtain ⟨nb, ao, n, ca, rfl, b1, n1, a1, _⟩ := h.bag _ h1
  obtain ⟨mb, bo, m, cb, rfl, b2, n2, a2, _⟩ := h.bag _ h2
  exact (cmp_any nb mb ao n ca bo m cb x y w b1 b2).mono fun e w' ⟨he, hw⟩ => ⟨by rw [he, hs], h.step hw⟩

theorem mul_bagE (h : St W w L) (h1 : ⟨u, x, N, c⟩ ∈ L) (h2 : ⟨v, y, M, d⟩ ∈ L) (hN : N ≤ 100000) (hM : M ≤ 100000) (hs : N < 100 ∨ M < 100) :
    Calls Tryz.prog 109 #[u, v] w fun e w' => ∃ r, e = .returned r ∧ Ext w w' ∧ St W w' (⟨r, x * y, N + M, true⟩ :: L) := by
  have h0 : St w w L := ⟨Ext.refl w, h.bag⟩
  exact (mul_bag h0 h1 h2 hN hM hs).mono fun e w' ⟨r, he, hr⟩ => ⟨r, he, hr.ext, ⟨h.ext.trans hr.ext, hr.bag⟩⟩

end

theorem St.alloc {W w : World} {L : List Ent} (h : St W w L) (o : Obj) : St W (w.alloc o) L := h.step ((Below.refl _ w).alloc (Nat.le_refl _) o)

theorem Ent.Ok.only_box {w w' : World} {p : Ent} {g : Nat} {nb : Bool} {ao : Option Addr} {n ca : Nat} (h : p.Ok w) (hb : Box w g nb ao n ca) (ho : Only g w w') : p.Ok w' := by
  obtain ⟨nb, ao, n, ca, h1, ⟨⟨zs, h2, h2'⟩, h2''⟩, h3, h4, h5⟩ := h
  exact ⟨nb, ao, n, ca, h1, ⟨⟨zs, h2.only_box hb ho, h2'⟩, h2''⟩, h3, h4, fun e => ⟨(h5 e).neg, (h5 e).sl.only_box hb ho⟩⟩

/-- a variable of this call's own is written -/
theorem St.stored {W w : World} {L : List Ent} {g : Nat} {nb : Bool} {ao : Option Addr} {n ca : Nat} (h : St W w L) (hb : Box w g nb ao n ca) (hg : W.heap.size ≤ g) (mb : Bool) (bo : Option Addr) (m cb : Nat) :
    St W ((w.setCell ⟨g, 0, none⟩ (.bool mb)).setCell ⟨g, 1, none⟩ (.slice bo m cb)) L :=
  ⟨Below.trans h.ext ((only_set2 w g _ _).below hg), fun p hp => (h.bag p hp).only_box hb (only_set2 w g _ _)⟩

/-- a new variable behind a call -/
theorem box_after {w wn : World} {nb : Bool} {ao : Option Addr} {n ca : Nat} (h : Ext (w.alloc (.cells #[.bool nb, .slice ao n ca] 37)) wn) : Box wn w.heap.size nb ao n ca :=
  (Box.new w nb ao n ca).below h
end Go.Proofs.YtjohpdobnedilaaGreatDoor

/- More of what each function adds to the integers at hand: shifts, bit lengths, trailing zeros. -/
namespace Go.Proofs.YtjohpdobnedilaaGreatDoor
open Go.RowKit

theorem limb_pow (e : Nat) : 4294967296 ^ e = 2 ^ (32 * e) := by rw [Nat.pow_mul]

theorem two_pow_le' {k e : Nat} (h : k ≤ 32 * e) : 2 ^ k ≤ 4294967296 ^ e := by rw [limb_pow]; exact Nat.pow_le_pow_right (by omega) h

theorem two_pow_le {k : Nat} (hk : k < 512) : 2 ^ k ≤ 4294967296 ^ 16 := two_pow_le' (by omega)

theorem blen_le {a e : Nat} (h : a < 4294967296 ^ e) : blen a ≤ 32 * e := by
  rw [limb_pow] at h
  by_cases h0 : a = 0
  · unfold blen; rw [if_pos h0]; omega
  · have h1 : blen a = Nat.log2 a + 1 := by unfold blen; rw [if_neg h0]
    have h2 := (Nat.log2_lt h0).2 h
    omega

theorem tz_le {a t e : Nat} (ht : IsTz a t) (h0 : a ≠ 0) (h : a < 4294967296 ^ e) : t ≤ 32 * e := by
  rw [limb_pow] at h
  have h1 := ht.dvd h0 (32 * e)
  rw [Nat.mod_eq_of_lt h] at h1
  have := h1.2 h0
  omega

theorem natAbs_mul_pow (x : Int) (k : Nat) : (x * 2 ^ k).natAbs = x.natAbs * 2 ^ k := by
  rw [Int.natAbs_mul, Int.natAbs_pow]; rfl

theorem isTz_exists (a : Nat) : ∃ t, IsTz a t := by
  by_cases h : a = 0
  · exact ⟨0, Or.inl ⟨h, rfl⟩⟩
  · obtain ⟨m, hm, _⟩ := Lib.ctzFrom_spec a a (by omega) (Nat.lt_two_pow_self)
    exact ⟨_, Or.inr ⟨h, m, hm⟩⟩

section
variable {W w : World} {L : List Ent} {u : Value} {x : Int} {N : Nat} {c : Bool}

theorem shl_bag (h : St W w L) (h1 : ⟨u, x, N, c⟩ ∈ L) (hN : N ≤ 100000) (k : Nat) (hk : k < 512) :
    Calls Tryz.prog 46 #[u, .int .i64 (k : Int)] w fun e w' => ∃ qn qo qk qc, e = .returned (.tuple #[.agg #[.bool qn, .slice qo qk qc], .int .i64 0]) ∧
      Bn w' qn qo qk qc (x * 2 ^ k) ∧ St W w' (⟨.agg #[.bool qn, .slice qo qk qc], x * 2 ^ k, N + 16, true⟩ :: L) := by
  obtain ⟨nb, ao, n, ca, rfl, b1, n1, a1, _⟩ := h.bag _ h1
  refine (shift_left nb ao n ca x k w b1 (by omega)).mono fun e w' ⟨qn, qo, qk, qc, he, hr, hw⟩ => ⟨qn, qo, qk, qc, he, hr, ?_⟩
  refine h.push hw (ok_bn hr ?_ (by omega))
  rw [natAbs_mul_pow, Nat.pow_add]
  exact Nat.mul_lt_mul_of_lt_of_le a1 (two_pow_le hk) (Nat.pos_of_ne_zero (by simp))

theorem shr_bag (h : St W w L) (h1 : ⟨u, x, N, c⟩ ∈ L) (hN : N ≤ 100000) (k : Nat) (hk : k < 512) (hT : Table W) :
    Calls Tryz.prog 46 #[u, .int .i64 (-(k : Int))] w fun e w' => ∃ qn qo qk qc, e = .returned (.tuple #[.agg #[.bool qn, .slice qo qk qc], .int .i64 0]) ∧
      Bn w' qn qo qk qc (x / 2 ^ k) ∧ St W w' (⟨.agg #[.bool qn, .slice qo qk qc], x / 2 ^ k, N, true⟩ :: L) := by
  obtain ⟨nb, ao, n, ca, rfl, b1, n1, a1, _⟩ := h.bag _ h1
  have hle : (x / 2 ^ k).natAbs < 4294967296 ^ N := Nat.lt_of_le_of_lt (Int.natAbs_ediv_le_natAbs x (2 ^ k)) a1
  rcases Nat.eq_zero_or_pos k with rfl | hk0
  · refine (shift_left nb ao n ca x 0 w b1 (by omega)).mono fun e w' ⟨qn, qo, qk, qc, he, hr, hw⟩ => ⟨qn, qo, qk, qc, he, ?_, ?_⟩
    · simpa using hr
    · exact h.push hw (ok_bn (by simpa using hr) hle (by omega))
  · exact (shift_right nb ao n ca x k w b1 (by omega) hk0 (hT.below h.ext)).mono fun e w' ⟨qn, qo, qk, qc, he, hr, hw⟩ => ⟨qn, qo, qk, qc, he, hr, h.push hw (ok_bn hr hle (by omega))⟩

theorem one_bag (h : St W w L) :
    Calls Tryz.prog 79 #[.int .i64 1] w fun e w' => ∃ r, e = .returned r ∧ St W w' (⟨r, 1, 1, true⟩ :: L) := by
  refine (fromInt_any 1 w (by omega) (by omega)).mono fun e w' ⟨nr, ro, k, cr, he, hr, hw⟩ => ⟨_, he, h.push hw (ok_bn hr (by decide) (by omega))⟩

theorem bitLen_bag (h : St W w L) (h1 : ⟨u, x, N, c⟩ ∈ L) (s : Int) (hs : (blen x.natAbs : Int) = s) :
    Calls Tryz.prog 48 #[u] w fun e w' => e = .returned (.int .i64 s) ∧ St W w' L := by
  obtain ⟨nb, ao, n, ca, rfl, b1, n1, a1, _⟩ := h.bag _ h1
  exact (bitLenOut_any nb ao n ca x w b1).mono fun e w' ⟨he, hw⟩ => ⟨by rw [he, hs], h.step hw⟩

theorem tz_bag (h : St W w L) (h1 : ⟨u, x, N, c⟩ ∈ L) (t : Nat) (s : Int) (ht : IsTz x.natAbs t ∧ (t : Int) = s) (hT : Table W) :
    Calls Tryz.prog 50 #[u] w fun e w' => e = .returned (.int .i64 s) ∧ St W w' L := by
  obtain ⟨nb, ao, n, ca, rfl, b1, n1, a1, _⟩ := h.bag _ h1
  exact (trailingZerosOut_any nb ao n ca x w b1 (hT.below h.ext)).mono fun e w' ⟨t', he, ht', hw⟩ => ⟨by rw [he, ← ht.2, ht'.unique ht.1], h.step hw⟩
end
end Go.Proofs.YtjohpdobnedilaaGreatDoor
