/- More of what each function adds to the integers at hand: quotients, signs, comparisons. -/
import Derived.Test.YtkifefinbgceeaaDoorBag
import Derived.Test.YtkifefinbgceeaaDoorQuo
import Derived.Test.YtkifefinbgceeaaDoorDivLong
import Derived.Test.YtkifefinbgceeaaDoorCmp
import Derived.Test.YtkifefinbgceeaaDoorRefNorm
namespace Go.Proofs.YtkifefinbgceeaaDoor
open Go.RowKit

section
variable {W w : World} {L : List Ent} {u v : Value} {x y : Int} {N M : Nat} {c d : Bool}

theorem divMod_bag (h : St W w L) (h1 : ⟨u, x, N, c⟩ ∈ L) (h2 : ⟨v, y, M, d⟩ ∈ L) (hN : N ≤ 100000) (hM : M ≤ 100000) (hy : y ≠ 0) :
    Calls Tryd.prog 39 #[u, v] w fun e w' => ∃ qn qo qk qc rn ro rk rc, e = .returned (.tuple #[.agg #[.bool qn, .slice qo qk qc], .agg #[.bool rn, .slice ro rk rc], .int .i64 0]) ∧
      Bn w' qn qo qk qc (x / y) ∧ Bn w' rn ro rk rc (x % y) ∧ St W w' (⟨.agg #[.bool qn, .slice qo qk qc], x / y, N, true⟩ :: ⟨.agg #[.bool rn, .slice ro rk rc], x % y, M, true⟩ :: L) := by
  obtain ⟨nb, ao, n, ca, rfl, b1, n1, a1, _⟩ := h.bag _ h1
  obtain ⟨mb, bo, m, cb, rfl, b2, n2, a2, _⟩ := h.bag _ h2
  simp only at n1 n2 a1 a2 b1 b2
  refine (divMod_any nb mb ao n ca bo m cb x y w b1 b2 hy (by omega) (div_says _ _ (by omega))).mono fun e w' ⟨qn, qo, qk, qc, rn, ro, rk, rc, he, hq, hr, hw⟩ => ⟨qn, qo, qk, qc, rn, ro, rk, rc, he, hq, hr, ?_⟩
  have q1 := Int.natAbs_ediv_le_natAbs x y
  have r1 : (x % y).natAbs < y.natAbs := by
    have := Int.emod_nonneg x hy
    have := Int.emod_lt x hy
    omega
  refine St.push (W := W) (St.push (W := W) h hw (ok_bn hr (N := M) (by omega) (by omega))) (Ext.refl _) (ok_bn hq (by omega) (by omega))

theorem quo_bag (h : St W w L) (h1 : ⟨u, x, N, c⟩ ∈ L) (h2 : ⟨v, y, M, d⟩ ∈ L) (hN : N ≤ 100000) (hy : y ≠ 0) (z : Int) (hz : x = z * y) :
    Calls Tryd.prog 40 #[u, v] w fun e w' => ∃ qn qo qk qc, e = .returned (.tuple #[.agg #[.bool qn, .slice qo qk qc], .int .i64 0]) ∧
      Bn w' qn qo qk qc z ∧ St W w' (⟨.agg #[.bool qn, .slice qo qk qc], z, N, true⟩ :: L) := by
  obtain ⟨nb, ao, n, ca, rfl, b1, n1, a1, _⟩ := h.bag _ h1
  obtain ⟨mb, bo, m, cb, rfl, b2, n2, a2, _⟩ := h.bag _ h2
  simp only at n1 n2 a1 a2 b1 b2
  have hd : x.natAbs % y.natAbs = 0 := by rw [hz, Int.natAbs_mul, Nat.mul_mod_left]
  have hq : x / y = z := by rw [hz, Int.mul_ediv_cancel _ hy]
  refine (quo_exact nb mb ao n ca bo m cb x y w b1 b2 hy (by omega) (div_says _ _ (by omega)) hd).mono fun e w' ⟨qn, qo, qk, qc, he, hr, hw⟩ => ⟨qn, qo, qk, qc, he, ?_, ?_⟩
  · rw [← hq]; exact hr
  · have q1 := Int.natAbs_ediv_le_natAbs x y
    rw [hq] at q1 hr
    exact h.push hw (ok_bn hr (by omega) (by omega))

theorem sign_bag (h : St W w L) (h1 : ⟨u, x, N, c⟩ ∈ L) (s : Int) (hs : sgn3 x 0 = s) :
    Calls Tryd.prog 21 #[u] w fun e w' => e = .returned (.int .i64 s) ∧ St W w' L := by
  obtain ⟨nb, ao, n, ca, rfl, b1, n1, a1, _⟩ := h.bag _ h1
  exact (sign_any nb ao n ca x w b1).mono fun e w' ⟨he, hw⟩ => ⟨by rw [he, hs], h.step hw⟩

theorem refSign_bag (h : St W w L) (h1 : ⟨u, x, N, c⟩ ∈ L) (s : Int) (hs : sgn3 x 0 = s) :
    Calls Tryd.prog 22 #[u] w fun e w' => e = .returned (.int .i64 s) ∧ St W w' L := by
  obtain ⟨nb, ao, n, ca, rfl, b1, n1, a1, _⟩ := h.bag _ h1
  exact (refSign_any nb ao n ca x w b1).mono fun e w' ⟨he, hw⟩ => ⟨by rw [he, hs], h.step hw⟩

theorem cmp_bag (h : St W w L) (h1 : ⟨u, x, N, c⟩ ∈ L) (h2 : ⟨v, y, M, d⟩ ∈ L) (s : Int) (hs : sgn3 x y = s) :
    Calls Tryd.prog 19 #[u, v] w fun e w' => e = .returned (.int .i64 s) ∧ St W w' L := by
  obtain ⟨nb, ao, n, ca, rfl, b1, n1, a1, _⟩ := h.bag _ h1
  obtain ⟨mb, bo, m, cb, rfl, b2, n2, a2, _⟩ := h.bag _ h2
  exact (cmp_any nb mb ao n ca bo m cb x y w b1 b2).mono fun e w' ⟨he, hw⟩ => ⟨by rw [he, hs], h.step hw⟩

theorem mul_bagE (h : St W w L) (h1 : ⟨u, x, N, c⟩ ∈ L) (h2 : ⟨v, y, M, d⟩ ∈ L) (hN : N ≤ 100000) (hM : M ≤ 100000) (hs : N < 100 ∨ M < 100) :
    Calls Tryd.prog 33 #[u, v] w fun e w' => ∃ r, e = .returned r ∧ Ext w w' ∧ St W w' (⟨r, x * y, N + M, true⟩ :: L) := by
  have h0 : St w w L := ⟨Ext.refl w, h.bag⟩
  exact (mul_bag h0 h1 h2 hN hM hs).mono fun e w' ⟨r, he, hr⟩ => ⟨r, he, hr.ext, ⟨h.ext.trans hr.ext, hr.bag⟩⟩

theorem quo_bagE (h : St W w L) (h1 : ⟨u, x, N, c⟩ ∈ L) (h2 : ⟨v, y, M, d⟩ ∈ L) (hN : N ≤ 100000) (hy : y ≠ 0) (z : Int) (hz : x = z * y) :
    Calls Tryd.prog 40 #[u, v] w fun e w' => ∃ qn qo qk qc, e = .returned (.tuple #[.agg #[.bool qn, .slice qo qk qc], .int .i64 0]) ∧
      Ext w w' ∧ St W w' (⟨.agg #[.bool qn, .slice qo qk qc], z, N, true⟩ :: L) := by
  have h0 : St w w L := ⟨Ext.refl w, h.bag⟩
  exact (quo_bag h0 h1 h2 hN hy z hz).mono fun e w' ⟨qn, qo, qk, qc, he, _, hr⟩ => ⟨qn, qo, qk, qc, he, hr.ext, ⟨h.ext.trans hr.ext, hr.bag⟩⟩
end

theorem St.alloc {W w : World} {L : List Ent} (h : St W w L) (o : Obj) : St W (w.alloc o) L := h.step ((Below.refl _ w).alloc (Nat.le_refl _) o)

theorem Ent.Ok.only_box {w w' : World} {p : Ent} {g : Nat} {nb : Bool} {ao : Option Addr} {n ca : Nat} (h : p.Ok w) (hb : Box w g nb ao n ca) (ho : Only g w w') : p.Ok w' := by
  obtain ⟨nb, ao, n, ca, h1, ⟨⟨zs, h2, h2'⟩, h2''⟩, h3, h4, h5⟩ := h
  exact ⟨nb, ao, n, ca, h1, ⟨⟨zs, h2.only_box hb ho, h2'⟩, h2''⟩, h3, h4, fun e => ⟨(h5 e).neg, (h5 e).sl.only_box hb ho⟩⟩

/-- a variable of this call's own is written -/
theorem St.stored {W w : World} {L : List Ent} {g : Nat} {nb : Bool} {ao : Option Addr} {n ca : Nat} (h : St W w L) (hb : Box w g nb ao n ca) (hg : W.heap.size ≤ g) (mb : Bool) (bo : Option Addr) (m cb : Nat) :
    St W ((w.setCell ⟨g, 0, none⟩ (.bool mb)).setCell ⟨g, 1, none⟩ (.slice bo m cb)) L :=
  ⟨Below.trans h.ext ((only_set2 w g _ _).below hg), fun p hp => (h.bag p hp).only_box hb (only_set2 w g _ _)⟩

/-- a new variable behind a call -/
theorem box_after {w wn : World} {nb : Bool} {ao : Option Addr} {n ca : Nat} (h : Ext (w.alloc (.cells #[.bool nb, .slice ao n ca] 24)) wn) : Box wn w.heap.size nb ao n ca :=
  (Box.new w nb ao n ca).below h
end Go.Proofs.YtkifefinbgceeaaDoor
