/- What integer.Cmp does. -/
import Derived.Test.YtpjfipjmpppjcaaGa
import Derived.Test.YtpjfipjmpppjcaaGb
import Derived.Deep.RegionHeld3
namespace Go.Proofs.Ytpjfipjmpppjcaa
open Go.RowKit

theorem Bg.drew {w : World} {nb : Bool} {ao : Option Addr} {n cap : Nat} {x : Int} (h : Bg w nb ao n cap x) : Bg w.drew nb ao n cap x := h.below (Below.refl _ _).drew

theorem sgn3_bd (x y : Int) : -1 ≤ sgn3 x y ∧ sgn3 x y ≤ 1 := by unfold sgn3; omega

theorem sgn3_signs {x y : Int} (h : sgn3 x 0 ≠ sgn3 y 0) : sgn3 (sgn3 x 0) (sgn3 y 0) = sgn3 x y := by
  unfold sgn3 at *
  repeat' split
  all_goals first | omega | (simp_all; done) | (exfalso; simp_all; omega)

theorem sgn3_mags {nb mb : Bool} {zs ys : List Int} {x y : Int} (hz : Wf zs) (hy : Wf ys) (ex : x = sgd nb zs) (ey : y = sgd mb ys) (h : sgn3 x 0 = sgn3 y 0) :
    (if nb then - sgn3 (num zs).toNat (num ys).toNat else sgn3 (num zs).toNat (num ys).toNat) = sgn3 x y := by
  have a := num_nonneg hz
  have b := num_nonneg hy
  rw [Int.toNat_of_nonneg a, Int.toNat_of_nonneg b]
  subst ex ey
  unfold sgd at *
  unfold sgn3 at *
  generalize num zs = p at *
  generalize num ys = q at *
  cases nb <;> cases mb <;> simp only [Bool.false_eq_true, if_true, if_false] at h ⊢ <;> omega

end Go.Proofs.Ytpjfipjmpppjcaa

/- What the reference's trim does: a copy without the leading zeros. -/
namespace Go.Proofs.Ytpjfipjmpppjcaa
open Go.RowKit

end Go.Proofs.Ytpjfipjmpppjcaa

/- What the reference's make1, Norm and Sign do. -/
namespace Go.Proofs.Ytpjfipjmpppjcaa
open Go.RowKit

theorem make1_val {nb nr : Bool} {zs : List Int} {w : World} {ro : Option Addr} {k rc : Nat} (hz : Wf zs) (hs : Sl w ro k rc (limbs (num zs).toNat)) (hr : nr = (nb && decide (0 < k))) : Bn w nr ro k rc (sgd nb zs) := by
  refine bn_of hs hr ?_
  rw [Int.toNat_of_nonneg (num_nonneg hz)]; rfl

end Go.Proofs.Ytpjfipjmpppjcaa
