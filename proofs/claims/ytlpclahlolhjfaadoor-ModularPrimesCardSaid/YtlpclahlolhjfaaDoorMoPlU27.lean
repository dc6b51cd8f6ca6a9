import Derived.Test.YtlpclahlolhjfaaDoorMoPlU22
import Derived.Test.YtlpclahlolhjfaaDoorMoPlU23
import Derived.Test.YtlpclahlolhjfaaDoorMoPlU6
import Derived.Test.YtlpclahlolhjfaaDoorMoPlU24
import Derived.Test.YtlpclahlolhjfaaDoorMoPlU17
import Derived.Test.YtlpclahlolhjfaaDoorMoPlU21
import Derived.Test.YtlpclahlolhjfaaDoorMoPlU0
import Derived.Test.YtlpclahlolhjfaaDoorMoPlU14
import Derived.Test.YtlpclahlolhjfaaDoorMoPlU25
import Derived.Test.YtlpclahlolhjfaaDoorMoPlU4
import Derived.Test.YtlpclahlolhjfaaDoorMoPlU3
import Derived.Laws.AppendOwn
import Derived.OwnWalk
import Derived.Test.YtlpclahlolhjfaaDoorMoPlU11
import Derived.Test.YtlpclahlolhjfaaDoorMoPlU15
import Derived.Deep.QuietTactic
import Derived.BigQuiet
import Derived.Deep.RegionHeld3
import Derived.Test.YtlpclahlolhjfaaDoorMoPlU26
import Derived.WalkKit
import Derived.WalkSmall
import Derived.Lib.Hide
import Derived.Deep.CutRange
import Derived.Deep.RegionWith
import Derived.Laws.Bits64b
import Derived.Deep.CutBlock
import Derived.LoopTactic
import Derived.RegionTactic
import Derived.ChangeAlike
namespace Go.Proofs.YtlpclahlolhjfaaDoor
open Go.RowKit

theorem limbs_len_toNat {zs : List Int} (h : Wf zs) : (limbs (num zs).toNat).length ≤ zs.length := by
  rw [tlen_eq h]; exact tlen_le _ _

end Go.Proofs.YtlpclahlolhjfaaDoor

namespace Go.Proofs.YtlpclahlolhjfaaDoor

/-- a dyad: none if it is not representable, otherwise the odd integer and the exponent (or two zeros) -/
abbrev Dy := Option (Int × Int)

/-- the integer in units of 2^-65536; not for none -/
def sc : Dy → Int
  | none => 0
  | some (m, e) => m * 2 ^ (e + 65536).toNat

end Go.Proofs.YtlpclahlolhjfaaDoor

namespace Go.Proofs.YtlpclahlolhjfaaDoor
open Go.RowKit

section
variable {W w : World} {L : List Ent} {u v : Value} {x y : Int} {N M : Nat} {c d : Bool}
end

/-- two boxes -/
theorem box_pair (w : World) (nb : Bool) (ao : Option Addr) (n ca : Nat) (mb : Bool) (bo : Option Addr) (m cb : Nat) :
    ∃ W, W = (w.alloc (.cells #[.bool nb, .slice ao n ca] 36)).alloc (.cells #[.bool mb, .slice bo m cb] 36) ∧ Ext w W ∧ Box W w.heap.size nb ao n ca ∧ Box W (w.heap.size + 1) mb bo m cb := by
  refine ⟨_, rfl, ((Below.refl _ w).alloc (Nat.le_refl _) _).alloc (by simp) _, ?_, ?_⟩
  · exact (Box.new w nb ao n ca).below ((Below.refl _ _).alloc (Nat.le_refl _) _)
  · have := Box.new (w.alloc (.cells #[.bool nb, .slice ao n ca] 36)) mb bo m cb
    simpa using this

section
variable {W w : World} {L : List Ent} {u v : Value} {x y : Int} {N M : Nat} {c d : Bool}
theorem i64_lt {i : Int} (h : -9223372036854775808 ≤ i ∧ i ≤ 9223372036854775807) : i.natAbs < 4294967296 ^ 2 := by
  have : (4294967296 : Nat) ^ 2 = 18446744073709551616 := rfl
  omega
theorem fromInt_bag (h : St W w L) (i : Int) (hi : -9223372036854775808 ≤ i ∧ i ≤ 9223372036854775807) :
    Calls Tryd.prog 23 #[.int .i64 i] w fun e w' => ∃ r, e = .returned r ∧ St W w' (⟨r, i, 2, true⟩ :: L) :=
  (fromInt_any i w hi.1 hi.2).mono fun e w' ⟨nr, ro, k, cr, he, hr, hw⟩ => ⟨_, he, h.push hw (ok_bn hr (i64_lt hi) (by omega))⟩
end
end Go.Proofs.YtlpclahlolhjfaaDoor

namespace Go.Proofs.YtlpclahlolhjfaaDoor

def fmag (f : Nat) : Nat := f % 9223372036854775808
def ffld (f : Nat) : Nat := fmag f / 4503599627370496
/-- the significand -/
def sig (f : Nat) : Nat := if ffld f = 0 then fmag f else fmag f % 4503599627370496 + 4503599627370496
/-- the exponent of the last place, above the least one -/
def fsh (f : Nat) : Nat := ffld f - 1
/-- the absolute value in units of the least float -/
def fz (f : Nat) : Nat := sig f * 2 ^ fsh f
end Go.Proofs.YtlpclahlolhjfaaDoor

namespace Go.Proofs.YtlpclahlolhjfaaDoor
open Go.RowKit

theorem Box.ext' {w w' : World} {g : Nat} {nb : Bool} {ao : Option Addr} {n ca : Nat} (h : Box w g nb ao n ca) (he : Ext w w') : Box w' g nb ao n ca := h.below he
theorem Bg.ext {w w' : World} {nb : Bool} {ao : Option Addr} {n ca : Nat} {x : Int} (h : Bg w nb ao n ca x) (he : Ext w w') : Bg w' nb ao n ca x := h.below he

end Go.Proofs.YtlpclahlolhjfaaDoor

namespace Go.Proofs.YtlpclahlolhjfaaDoor
open Go Go.RowKit

/-- an integer as an entry at hand -/
def bent (v : Value) (x : Int) : REnt := ⟨v, decide (x < 0), limbs x.natAbs⟩
theorem bent_bn {w : World} {nb : Bool} {ao : Option Addr} {n ca : Nat} {x : Int} (h : REnt.Ok w (bent (.agg #[.bool nb, .slice ao n ca]) x)) : Bn w nb ao n ca x := by
  obtain ⟨_, _, _, e, hs⟩ := h
  simp only [bent, Value.agg.injEq, Array.mk.injEq, List.cons.injEq, Value.bool.injEq, Value.slice.injEq, and_true] at e
  obtain ⟨rfl, rfl, rfl, rfl⟩ := e
  exact ⟨rfl, hs⟩
theorem bn_bent {w : World} {nb : Bool} {ao : Option Addr} {n ca : Nat} {x : Int} (h : Bn w nb ao n ca x) : REnt.Ok w (bent (.agg #[.bool nb, .slice ao n ca]) x) := by
  have h1 := h.neg
  have h2 := h.sl
  subst h1
  exact ⟨ao, n, ca, rfl, h2⟩
theorem bag_cons {V w w' : World} {L : List REnt} {p : REnt} (h : RSt V w L) (he : Ext w w') (hp : p.Ok w') : RSt V w' (p :: L) := ⟨h.ext.trans he, fun q hq => by
  rcases List.mem_cons.1 hq with rfl | hq
  · exact hp
  · exact (h.bag q hq).ext he⟩
theorem fromInt_ent {V w : World} {L : List REnt} (p : Int) (h : RSt V w L) (h0 : -9223372036854775808 ≤ p ∧ p ≤ 9223372036854775807) :
    Calls Tryd.prog 23 #[.int .i64 p] w fun e w' => ∃ fn fo fk fc, e = .returned (.agg #[.bool fn, .slice fo fk fc]) ∧ Ext w w' ∧ RSt V w' (bent (.agg #[.bool fn, .slice fo fk fc]) p :: L) :=
  (fromInt_any p w h0.1 h0.2).mono fun _ _ ⟨nr, ro, k, cr, he, hn, hw⟩ => ⟨nr, ro, k, cr, he, hw, bag_cons h hw (bn_bent hn)⟩
theorem one_len {p : Int} (h0 : 0 < p) (hp : p ≤ 2147483648) : (limbs p.natAbs).length ≤ 1 := (limbs_len_le _ 1).2 (by omega)
theorem bent_bg {w : World} {nb : Bool} {ao : Option Addr} {n ca : Nat} {p : Int} (h : REnt.Ok w (bent (.agg #[.bool nb, .slice ao n ca]) p)) (h0 : 0 < p) (hp : p ≤ 2147483648) : Bg w nb ao n ca p := by
  have hb := bent_bn h
  have := one_len h0 hp
  rw [hb.sl.len] at this
  exact hb.bg (by omega)
theorem divMod_ent {V w : World} {L : List REnt} (nb : Bool) (ao : Option Addr) (n ca : Nat) (x p : Int) (fn : Bool) (fo : Option Addr) (fk fc : Nat) (h : RSt V w (bent (.agg #[.bool fn, .slice fo fk fc]) p :: L)) (ha : Bg w nb ao n ca x) (hn : n ≤ 100000000) (h0 : 0 < p) (hp : p ≤ 2147483648) :
    Calls Tryd.prog 61 #[.agg #[.bool nb, .slice ao n ca], .agg #[.bool fn, .slice fo fk fc]] w fun e w' => ∃ xn xo xk xc yn yo yk yc, e = .returned (.tuple #[.agg #[.bool xn, .slice xo xk xc], .agg #[.bool yn, .slice yo yk yc], .int .i64 0]) ∧ Ext w w' ∧ RSt V w' [bent (.agg #[.bool yn, .slice yo yk yc]) (x % p)] := by
  have hb := bent_bg (h.bag _ (List.Mem.head _)) h0 hp
  refine (divMod_any nb fn ao n ca fo fk fc x p w ha hb (by omega) hn (div_says _ _ (by omega))).mono fun e w' ⟨xn, xo, xk, xc, yn, yo, yk, yc, he, _, hr, hw⟩ => ⟨xn, xo, xk, xc, yn, yo, yk, yc, he, hw, h.ext.trans hw, fun q hq => ?_⟩
  rw [List.mem_singleton] at hq
  subst hq
  exact bn_bent hr
theorem bn_small {w : World} {nb : Bool} {ao : Option Addr} {n ca : Nat} {z : Int} (h : Bn w nb ao n ca z) (hz : z.natAbs < 4294967296) : Bg w nb ao n ca z := by
  have := (limbs_len_le z.natAbs 1).2 (by omega)
  rw [h.sl.len] at this
  exact h.bg (by omega)
theorem mod_abs {x p : Int} (h0 : 0 < p) (hp : p ≤ 2147483648) : (x % p).natAbs < 4294967296 := by
  have h1 := Int.emod_nonneg x (show p ≠ 0 by omega)
  have h2 := Int.emod_lt_of_pos x h0
  omega
theorem mod_small {x p : Int} (h0 : 0 < p) (hp : p ≤ 2147483648) : intOut (x % p) = x % p ∧ fitsI (x % p) = true := by
  have h1 := Int.emod_nonneg x (show p ≠ 0 by omega)
  have h2 := Int.emod_lt_of_pos x h0
  have := fits_yes (x := x % p) (by omega)
  exact ⟨this.2, this.1⟩
end Go.Proofs.YtlpclahlolhjfaaDoor
