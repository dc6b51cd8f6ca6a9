import Derived.Test.YtecaaklbhhjcjaaDoorDivisorU3
import Derived.Laws.AppendOwn
import Derived.OwnWalk
import Derived.Test.YtecaaklbhhjcjaaDoorDivisorU27
import Derived.Deep.RegionHeld3
import Derived.Test.YtecaaklbhhjcjaaDoorDivisorU14
import Derived.Test.YtecaaklbhhjcjaaDoorDivisorU19
import Derived.Test.YtecaaklbhhjcjaaDoorDivisorU26
import Derived.Test.YtecaaklbhhjcjaaDoorDivisorU28
namespace Go.Proofs.YtecaaklbhhjcjaaDoor
open Go.RowKit

theorem box_new (w : World) (nb : Bool) (ao : Option Addr) (n ca : Nat) :
    ∃ W, W = w.alloc (.cells #[.bool nb, .slice ao n ca] 24) ∧ Below w.heap.size w W ∧ Box W w.heap.size nb ao n ca ∧ w.heap.size + 1 ≤ W.heap.size :=
  ⟨_, rfl, (Below.refl _ w).alloc (Nat.le_refl _) _, Box.new w nb ao n ca, by simp⟩

end Go.Proofs.YtecaaklbhhjcjaaDoor

namespace Go.Proofs.YtecaaklbhhjcjaaDoor
open Go.RowKit

section
variable {W w : World} {L : List Ent} {u v : Value} {x y : Int} {N M : Nat} {c d : Bool}

theorem quo_bag (h : St W w L) (h1 : ⟨u, x, N, c⟩ ∈ L) (h2 : ⟨v, y, M, d⟩ ∈ L) (hN : N ≤ 100000) (hy : y ≠ 0) (z : Int) (hz : x = z * y) :
    Calls Tryd.prog 12 #[u, v] w fun e w' => ∃ qn qo qk qc, e = .returned (.tuple #[.agg #[.bool qn, .slice qo qk qc], .int .i64 0]) ∧
      Bn w' qn qo qk qc z ∧ St W w' (⟨.agg #[.bool qn, .slice qo qk qc], z, N, true⟩ :: L) := by
  obtain ⟨nb, ao, n, ca, rfl, b1, n1, a1, _⟩ := h.bag _ h1
  obtain ⟨mb, bo, m, cb, rfl, b2, n2, a2, _⟩ := h.bag _ h2
  simp only at n1 n2 a1 a2 b1 b2
  have hd : x.natAbs % y.natAbs = 0 := by rw [hz, Int.natAbs_mul, Nat.mul_mod_left]
  have hq : x / y = z := by rw [hz, Int.mul_ediv_cancel _ hy]
  refine (quo_exact nb mb ao n ca bo m cb x y w b1 b2 hy (by omega) (div_says _ _ (by omega)) hd).mono fun e w' ⟨qn, qo, qk, qc, he, hr, hw⟩ => ⟨qn, qo, qk, qc, he, ?_, ?_⟩
  · rw [← hq]; exact hr
  · have q1 := Int.natAbs_ediv_le_natAbs x y
    rw [hq] at q1 hr
    exact h.push hw (ok_bn hr (by omega) (by omega))

theorem sign_bag (h : St W w L) (h1 : ⟨u, x, N, c⟩ ∈ L) (s : Int) (hs : sgn3 x 0 = s) :
    Calls Tryd.prog 11 #[u] w fun e w' => e = .returned (.int .i64 s) ∧ St W w' L := by
  obtain ⟨nb, ao, n, ca, rfl, b1, n1, a1, _⟩ := h.bag _ h1
  exact (sign_any nb ao n ca x w b1).mono fun e w' ⟨he, hw⟩ => ⟨by rw [he, hs], h.step hw⟩

end

theorem St.alloc {W w : World} {L : List Ent} (h : St W w L) (o : Obj) : St W (w.alloc o) L := h.step ((Below.refl _ w).alloc (Nat.le_refl _) o)

theorem Ent.Ok.only_box {w w' : World} {p : Ent} {g : Nat} {nb : Bool} {ao : Option Addr} {n ca : Nat} (h : p.Ok w) (hb : Box w g nb ao n ca) (ho : Only g w w') : p.Ok w' := by
  obtain ⟨nb, ao, n, ca, h1, ⟨⟨zs, h2, h2'⟩, h2''⟩, h3, h4, h5⟩ := h
  exact ⟨nb, ao, n, ca, h1, ⟨⟨zs, h2.only_box hb ho, h2'⟩, h2''⟩, h3, h4, fun e => ⟨(h5 e).neg, (h5 e).sl.only_box hb ho⟩⟩

/-- a variable of this call's own is written -/
theorem St.stored {W w : World} {L : List Ent} {g : Nat} {nb : Bool} {ao : Option Addr} {n ca : Nat} (h : St W w L) (hb : Box w g nb ao n ca) (hg : W.heap.size ≤ g) (mb : Bool) (bo : Option Addr) (m cb : Nat) :
    St W ((w.setCell ⟨g, 0, none⟩ (.bool mb)).setCell ⟨g, 1, none⟩ (.slice bo m cb)) L :=
  ⟨Below.trans h.ext ((only_set2 w g _ _).below hg), fun p hp => (h.bag p hp).only_box hb (only_set2 w g _ _)⟩

end Go.Proofs.YtecaaklbhhjcjaaDoor
