import Derived.Test.YtagahbbjljndeaaGreatDoorMoNuU30
import Derived.Test.YtagahbbjljndeaaGreatDoorMoNuU31
import Derived.Test.YtagahbbjljndeaaGreatDoorMoNuU32
import Derived.Test.YtagahbbjljndeaaGreatDoorMoNuU33
import Derived.Test.YtagahbbjljndeaaGreatDoorMoNuU34
import Derived.Test.YtagahbbjljndeaaGreatDoorMoNuU26
import Derived.Test.YtagahbbjljndeaaGreatDoorMoNuU13
import Derived.Test.YtagahbbjljndeaaGreatDoorMoNuU23
namespace Go.Proofs.YtagahbbjljndeaaGreatDoor
open Go Go.RowKit

theorem dm_n {a b : Nat} (h0 : b ≠ 0) (h : a % b = 0) : -(a : Int) / (b : Int) = -((a / b : Nat) : Int) ∧ -(a : Int) % (b : Int) = 0 := by
  refine (Int.ediv_emod_unique (by omega)).2 ⟨?_, by omega, by omega⟩
  have := Nat.div_add_mod a b
  have e : (a : Int) = b * (a / b : Nat) := by rw [← Int.natCast_mul]; omega
  rw [Int.mul_neg]
  omega
theorem dm_nA {a b : Nat} (h0 : b ≠ 0) (h : a % b ≠ 0) : -(a : Int) / (b : Int) = -((a / b : Nat) : Int) - 1 ∧ -(a : Int) % (b : Int) = -((a % b : Nat) : Int) + (b : Int) := by
  have hl := Nat.mod_lt a (Nat.pos_of_ne_zero h0)
  refine (Int.ediv_emod_unique (by omega)).2 ⟨?_, by omega, by omega⟩
  have := Nat.div_add_mod a b
  have e : (a : Int) = b * (a / b : Nat) + (a % b : Nat) := by rw [← Int.natCast_mul, ← Int.natCast_add, this]
  rw [Int.mul_sub, Int.mul_neg, Int.mul_one]
  omega
/-- quotient and remainder of any integers -/
theorem refDivMod_any (nb mb : Bool) (ao : Option Addr) (n ca : Nat) (bo : Option Addr) (m cb : Nat) (x y : Int) (w : World) (ha : Bg w nb ao n ca x) (hb : Bg w mb bo m cb y) (hy0 : y ≠ 0) (hn : n ≤ 100000000) :
    Calls Tryz.prog 33 #[.agg #[.bool nb, .slice ao n ca], .agg #[.bool mb, .slice bo m cb]] w fun e w' => ∃ qn qo qk qc rn ro rk rc, e = .returned (.tuple #[.agg #[.bool qn, .slice qo qk qc], .agg #[.bool rn, .slice ro rk rc]]) ∧
      Bn w' qn qo qk qc (x / y) ∧ Bn w' rn ro rk rc (x % y) ∧ Ext w w' := by
  by_cases hx : x < 0
  · obtain ⟨a, rfl⟩ : ∃ a : Nat, x = -(a : Int) := ⟨x.natAbs, by omega⟩
    have h1 : a ≠ 0 := by omega
    by_cases hy : y < 0
    · obtain ⟨b, rfl⟩ : ∃ b : Nat, y = -(b : Int) := ⟨y.natAbs, by omega⟩
      have h0 : b ≠ 0 := by omega
      rw [Int.ediv_neg, Int.emod_neg]
      by_cases h : a % b = 0
      · obtain ⟨e1, e2⟩ := dm_n h0 h
        rw [e1, e2, Int.neg_neg]
        exact refDivMod_nn a b nb mb ao bo n m ca cb w ha hb hn h0 h1 h
      · obtain ⟨e1, e2⟩ := dm_nA h0 h
        rw [e1, e2, show -(-((a / b : Nat) : Int) - 1) = ((a / b : Nat) : Int) + 1 by omega]
        exact refDivMod_nnA a b nb mb ao bo n m ca cb w ha hb hn h0 h1 h
    · obtain ⟨b, rfl⟩ := Int.eq_ofNat_of_zero_le (Int.not_lt.1 hy)
      have h0 : b ≠ 0 := by omega
      by_cases h : a % b = 0
      · obtain ⟨e1, e2⟩ := dm_n h0 h
        rw [e1, e2]
        exact refDivMod_np a b nb mb ao bo n m ca cb w ha hb hn h0 h1 h
      · obtain ⟨e1, e2⟩ := dm_nA h0 h
        rw [e1, e2]
        exact refDivMod_npA a b nb mb ao bo n m ca cb w ha hb hn h0 h1 h
  · obtain ⟨a, rfl⟩ := Int.eq_ofNat_of_zero_le (Int.not_lt.1 hx)
    by_cases hy : y < 0
    · obtain ⟨b, rfl⟩ : ∃ b : Nat, y = -(b : Int) := ⟨y.natAbs, by omega⟩
      have h0 : b ≠ 0 := by omega
      rw [Int.ediv_neg, Int.emod_neg, ← Int.natCast_ediv, ← Int.natCast_emod]
      exact refDivMod_pn a b nb mb ao bo n m ca cb w ha hb hn h0
    · obtain ⟨b, rfl⟩ := Int.eq_ofNat_of_zero_le (Int.not_lt.1 hy)
      have h0 : b ≠ 0 := by omega
      rw [← Int.natCast_ediv, ← Int.natCast_emod]
      exact refDivMod_pos a b nb mb ao bo n m ca cb w ha hb hn h0
end Go.Proofs.YtagahbbjljndeaaGreatDoor

namespace Go.Proofs.YtagahbbjljndeaaGreatDoor
open Go Go.RowKit

/-- an integer as an entry at hand -/
def bent (v : Value) (x : Int) : REnt := ⟨v, decide (x < 0), limbs x.natAbs⟩
theorem bent_bn {w : World} {nb : Bool} {ao : Option Addr} {n ca : Nat} {x : Int} (h : REnt.Ok w (bent (.agg #[.bool nb, .slice ao n ca]) x)) : Bn w nb ao n ca x := by
  obtain ⟨_, _, _, e, hs⟩ := h
  simp only [bent, Value.agg.injEq, Array.mk.injEq, List.cons.injEq, Value.bool.injEq, Value.slice.injEq, and_true] at e
  obtain ⟨rfl, rfl, rfl, rfl⟩ := e
  exact ⟨rfl, hs⟩
theorem bn_bent {w : World} {nb : Bool} {ao : Option Addr} {n ca : Nat} {x : Int} (h : Bn w nb ao n ca x) : REnt.Ok w (bent (.agg #[.bool nb, .slice ao n ca]) x) := by
  have h1 := h.neg
  have h2 := h.sl
  subst h1
  exact ⟨ao, n, ca, rfl, h2⟩
theorem bag_cons {V w w' : World} {L : List REnt} {p : REnt} (h : RSt V w L) (he : Ext w w') (hp : p.Ok w') : RSt V w' (p :: L) := ⟨h.ext.trans he, fun q hq => by
  rcases List.mem_cons.1 hq with rfl | hq
  · exact hp
  · exact (h.bag q hq).ext he⟩
theorem fromInt_ent {V w : World} {L : List REnt} (p : Int) (h : RSt V w L) (h0 : -9223372036854775808 ≤ p ∧ p ≤ 9223372036854775807) :
    Calls Tryz.prog 24 #[.int .i64 p] w fun e w' => ∃ fn fo fk fc, e = .returned (.agg #[.bool fn, .slice fo fk fc]) ∧ Ext w w' ∧ RSt V w' (bent (.agg #[.bool fn, .slice fo fk fc]) p :: L) :=
  (fromInt_any p w h0.1 h0.2).mono fun _ _ ⟨nr, ro, k, cr, he, hn, hw⟩ => ⟨nr, ro, k, cr, he, hw, bag_cons h hw (bn_bent hn)⟩
theorem refFromInt_ent {V w : World} {L : List REnt} (p : Int) (h : RSt V w L) (h0 : -9223372036854775808 ≤ p ∧ p ≤ 9223372036854775807) :
    Calls Tryz.prog 34 #[.int .i64 p] w fun e w' => ∃ fn fo fk fc, e = .returned (.agg #[.bool fn, .slice fo fk fc]) ∧ Ext w w' ∧ RSt V w' (bent (.agg #[.bool fn, .slice fo fk fc]) p :: L) :=
  (refFromInt_any p w h0.1 h0.2).mono fun _ _ ⟨nr, ro, k, cr, he, hn, hw⟩ => ⟨nr, ro, k, cr, he, hw, bag_cons h hw (bn_bent hn)⟩
theorem one_len {p : Int} (h0 : 0 < p) (hp : p ≤ 2147483648) : (limbs p.natAbs).length ≤ 1 := (limbs_len_le _ 1).2 (by omega)
theorem bent_bg {w : World} {nb : Bool} {ao : Option Addr} {n ca : Nat} {p : Int} (h : REnt.Ok w (bent (.agg #[.bool nb, .slice ao n ca]) p)) (h0 : 0 < p) (hp : p ≤ 2147483648) : Bg w nb ao n ca p := by
  have hb := bent_bn h
  have := one_len h0 hp
  rw [hb.sl.len] at this
  exact hb.bg (by omega)
theorem divMod_ent {V w : World} {L : List REnt} (nb : Bool) (ao : Option Addr) (n ca : Nat) (x p : Int) (fn : Bool) (fo : Option Addr) (fk fc : Nat) (h : RSt V w (bent (.agg #[.bool fn, .slice fo fk fc]) p :: L)) (ha : Bg w nb ao n ca x) (hn : n ≤ 100000000) (h0 : 0 < p) (hp : p ≤ 2147483648) :
    Calls Tryz.prog 64 #[.agg #[.bool nb, .slice ao n ca], .agg #[.bool fn, .slice fo fk fc]] w fun e w' => ∃ xn xo xk xc yn yo yk yc, e = .returned (.tuple #[.agg #[.bool xn, .slice xo xk xc], .agg #[.bool yn, .slice yo yk yc], .int .i64 0]) ∧ Ext w w' ∧ RSt V w' [bent (.agg #[.bool yn, .slice yo yk yc]) (x % p)] := by
  have hb := bent_bg (h.bag _ (List.Mem.head _)) h0 hp
  refine (divMod_any nb fn ao n ca fo fk fc x p w ha hb (by omega) hn (div_says _ _ (by omega))).mono fun e w' ⟨xn, xo, xk, xc, yn, yo, yk, yc, he, _, hr, hw⟩ => ⟨xn, xo, xk, xc, yn, yo, yk, yc, he, hw, h.ext.trans hw, fun q hq => ?_⟩
  rw [List.mem_singleton] at hq
  subst hq
  exact bn_bent hr
theorem refDivMod_ent {V w : World} {L : List REnt} (nb : Bool) (ao : Option Addr) (n ca : Nat) (x p : Int) (fn : Bool) (fo : Option Addr) (fk fc : Nat) (h : RSt V w (bent (.agg #[.bool fn, .slice fo fk fc]) p :: L)) (ha : Bg w nb ao n ca x) (hn : n ≤ 100000000) (h0 : 0 < p) (hp : p ≤ 2147483648) :
    Calls Tryz.prog 33 #[.agg #[.bool nb, .slice ao n ca], .agg #[.bool fn, .slice fo fk fc]] w fun e w' => ∃ xn xo xk xc yn yo yk yc, e = .returned (.tuple #[.agg #[.bool xn, .slice xo xk xc], .agg #[.bool yn, .slice yo yk yc]]) ∧ Ext w w' ∧ RSt V w' [bent (.agg #[.bool yn, .slice yo yk yc]) (x % p)] := by
  have hb := bent_bg (h.bag _ (List.Mem.head _)) h0 hp
  refine (refDivMod_any nb fn ao n ca fo fk fc x p w ha hb (by omega) hn).mono fun e w' ⟨xn, xo, xk, xc, yn, yo, yk, yc, he, _, hr, hw⟩ => ⟨xn, xo, xk, xc, yn, yo, yk, yc, he, hw, h.ext.trans hw, fun q hq => ?_⟩
  rw [List.mem_singleton] at hq
  subst hq
  exact bn_bent hr
theorem bn_small {w : World} {nb : Bool} {ao : Option Addr} {n ca : Nat} {z : Int} (h : Bn w nb ao n ca z) (hz : z.natAbs < 4294967296) : Bg w nb ao n ca z := by
  have := (limbs_len_le z.natAbs 1).2 (by omega)
  rw [h.sl.len] at this
  exact h.bg (by omega)
theorem mod_abs {x p : Int} (h0 : 0 < p) (hp : p ≤ 2147483648) : (x % p).natAbs < 4294967296 := by
  have h1 := Int.emod_nonneg x (show p ≠ 0 by omega)
  have h2 := Int.emod_lt_of_pos x h0
  omega
theorem mod_small {x p : Int} (h0 : 0 < p) (hp : p ≤ 2147483648) : intOut (x % p) = x % p ∧ fitsI (x % p) = true := by
  have h1 := Int.emod_nonneg x (show p ≠ 0 by omega)
  have h2 := Int.emod_lt_of_pos x h0
  have := fits_yes (x := x % p) (by omega)
  exact ⟨this.2, this.1⟩
end Go.Proofs.YtagahbbjljndeaaGreatDoor
