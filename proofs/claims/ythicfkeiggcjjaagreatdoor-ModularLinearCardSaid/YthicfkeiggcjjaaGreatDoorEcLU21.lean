import Derived.Test.YthicfkeiggcjjaaGreatDoorEcLU2
import Derived.Test.YthicfkeiggcjjaaGreatDoorEcLU7
import Derived.Laws.Bits64
import Derived.Test.YthicfkeiggcjjaaGreatDoorEcLU0
import Derived.Test.YthicfkeiggcjjaaGreatDoorEcLU13
import Derived.Test.YthicfkeiggcjjaaGreatDoorEcLU14
import Derived.Test.YthicfkeiggcjjaaGreatDoorEcLU20
import Derived.Test.YthicfkeiggcjjaaGreatDoorEcLU3
import Derived.Laws.AppendOwn
import Derived.OwnWalk
import Derived.Test.YthicfkeiggcjjaaGreatDoorEcLU5
import Derived.Deep.QuietTactic
import Derived.BigQuiet
import Derived.Test.YthicfkeiggcjjaaGreatDoorEcLU15
import Derived.Deep.RegionHeld3
import Derived.WalkKit
import Derived.WalkSmall
import Derived.Lib.Hide
import Derived.Deep.CutRange
import Derived.Deep.RegionWith
import Derived.Laws.Bits64b
import Derived.Deep.CutBlock
import Derived.LoopTactic
import Derived.RegionTactic
import Derived.ChangeAlike
import Derived.Test.YthicfkeiggcjjaaGreatDoorEcLU9
namespace Go.Proofs.YthicfkeiggcjjaaGreatDoor
open Go.RowKit

set_option maxRecDepth 100000 in
set_option maxHeartbeats 1000000 in
/-- the closure: limb i, or zero -/
theorem limb_nat (ao : Option Addr) (n ca g i : Nat) (x : Int) (zs : List Int) (w : World) (hg : w.cell? ⟨g, 0, none⟩ = some (.slice ao n ca)) (hs : Sl w ao n ca zs) (hi : i ≤ 1099511627776) (hx : zs.getD i 0 = x) :
    Calls Tryz.prog 118 #[.int .i64 i, .pointer (some ⟨g, 0, none⟩)] w fun e w' => e = .returned (.int .u64 x) ∧ w = w' := by
  have hn := hs.big
  by_cases h : i < n
  · obtain ⟨b, off, rfl, hc⟩ := hs.cells (by rw [hs.len]; omega)
    have c1 := hc i (by rw [hs.len]; omega)
    rw [hx] at c1
    have hxr := hs.wf.getD i
    rw [hx] at hxr
    obtain ⟨x0, x1⟩ := hxr
    have HX := Lib.hid hx; clear hx hc
    go_enter Tryz.func118, Tryz.ntmps118
    go_wp2
    go_ret
    exact ⟨rfl, rfl⟩
  · have hx0 : x = 0 := by
      rw [← hx, List.getD, List.getElem?_eq_none (by rw [hs.len]; omega)]; rfl
    have HX := Lib.hid hx0; clear hx0 hx
    go_enter Tryz.func118, Tryz.ntmps118
    go_wp2
    go_ret
    exact ⟨by rw [HX.out]; rfl, rfl⟩

theorem or_comm64i (a b : Int) : bits BinOp.or IntKind.u64 a b = bits BinOp.or IntKind.u64 b a := by
  show IntKind.u64.wrap _ = IntKind.u64.wrap _
  rw [BitVec.or_comm]

theorem limb_in (ao : Option Addr) (n ca g : Nat) (i x : Int) (zs : List Int) (w : World) (hg : w.cell? ⟨g, 0, none⟩ = some (.slice ao n ca)) (hs : Sl w ao n ca zs) (h0 : 0 ≤ i) (hi : i ≤ 1099511627776) (hx : zs.getD i.toNat 0 = x) :
    Calls Tryz.prog 118 #[.int .i64 i, .pointer (some ⟨g, 0, none⟩)] w fun e w' => e = .returned (.int .u64 x) ∧ w = w' := by
  obtain ⟨k, rfl⟩ := Int.eq_ofNat_of_zero_le h0
  exact limb_nat ao n ca g k x zs w hg hs (by omega) (by simpa using hx)

set_option maxRecDepth 100000 in
set_option maxHeartbeats 1000000 in
theorem bits0_any (a : Nat) (ao : Option Addr) (n ca : Nat) (w : World) (hs : Sl w ao n ca (limbs a)) (ha : a < 18446744073709551616) :
    Calls Tryz.prog 106 #[.slice ao n ca, .int .i64 0] w fun e w' => e = .returned (.int .u64 a) ∧ Below w.heap.size w w' := by
  have l0 := limbs_at a 0
  have l1 := limbs_at a 1
  have l2 := limbs_at a 2
  have e0 : a / 4294967296 ^ 0 % 4294967296 = a % 4294967296 := by simp
  have e1 : a / 4294967296 ^ 1 % 4294967296 = a / 4294967296 := by rw [Nat.pow_one]; omega
  have e2 : a / 4294967296 ^ 2 % 4294967296 = 0 := by rw [Nat.div_eq_of_lt (by omega)]
  rw [e0] at l0; rw [e1] at l1; rw [e2] at l2
  obtain ⟨u, hu⟩ : ∃ u : Int, u = ((a % 4294967296 : Nat) : Int) := ⟨_, rfl⟩
  obtain ⟨v, hv⟩ : ∃ v : Int, v = ((a / 4294967296 : Nat) : Int) := ⟨_, rfl⟩
  rw [← hu] at l0; rw [← hv] at l1
  have u0 : 0 ≤ u := by omega
  have u1 : u < 4294967296 := by omega
  have v0 : 0 ≤ v := by omega
  have v1 : v < 4294967296 := by omega
  have hor : bits BinOp.or IntKind.u64 u (v * 4294967296) = (a : Int) := by
    rw [or_comm64i, or_hl v0 v1 u0 u1]; omega
  have hor0 : bits BinOp.or IntKind.u64 (a : Int) 0 = (a : Int) := by
    have := bits_or_u64_nat a 0 ha (by omega)
    simpa using this
  have hbd : (a : Int) < 18446744073709551616 := by omega
  have L0 := Lib.hid l0
  have L1 := Lib.hid l1
  have L2 := Lib.hid (show (limbs a).getD 2 0 = 0 from l2)
  clear l0 l1 l2 e0 e1 e2 hu hv ha
  have hgw : (w.alloc (.cells #[.slice ao n ca] 50)).cell? ⟨w.heap.size, 0, none⟩ = some (.slice ao n ca) := by go_simp
  have hB := (Below.refl w.heap.size w).alloc (Nat.le_refl _) (.cells #[.slice ao n ca] 50)
  have hs1 := hs.below hB
  go_enter Tryz.func106, Tryz.ntmps106
  go_wp2_with fail
  generalize w.alloc (.cells #[.slice ao n ca] 50) = W at *
  refine (limb_in ao n ca _ 0 u _ W hgw hs1 (by omega) (by omega) L0.out).mono ?_
  rintro e w' ⟨rfl, rfl⟩
  go_wp2_with fail
  refine (limb_in ao n ca _ 1 v _ W hgw hs1 (by omega) (by omega) L1.out).mono ?_
  rintro e w' ⟨rfl, rfl⟩
  go_wp2
  go_quiet ((go_at_call 118; exact quiet_left (limb_in ao n ca _ 2 0 _ _ (by exact hgw) (by exact hs1.drewN _) (by omega) (by omega) (by exact L2.out))))
  go_wp2
  go_ret
  exact ⟨rfl, below_drewN hB _⟩

end Go.Proofs.YthicfkeiggcjjaaGreatDoor

namespace Go.Proofs.YthicfkeiggcjjaaGreatDoor
open Go.RowKit

/-- does it fit into an int? -/
def fitsI (x : Int) : Bool := decide (-9223372036854775808 ≤ x ∧ x ≤ 9223372036854775807)
def intOut (x : Int) : Int := if -9223372036854775808 ≤ x ∧ x ≤ 9223372036854775807 then x else 0

theorem fits_yes {x : Int} (h : -9223372036854775808 ≤ x ∧ x ≤ 9223372036854775807) : fitsI x = true ∧ intOut x = x := ⟨decide_eq_true h, if_pos h⟩
theorem fits_no {x : Int} (h : ¬ (-9223372036854775808 ≤ x ∧ x ≤ 9223372036854775807)) : fitsI x = false ∧ intOut x = 0 := ⟨decide_eq_false h, if_neg h⟩

set_option maxRecDepth 100000 in
set_option maxHeartbeats 2000000 in
theorem int_any (nb : Bool) (ao : Option Addr) (n ca : Nat) (x : Int) (w : World) (h : Bg w nb ao n ca x) :
    Calls Tryz.prog 85 #[.agg #[.bool nb, .slice ao n ca]] w fun e w' => e = .returned (.tuple #[.int .i64 (intOut x), .bool (fitsI x)]) ∧ Ext w w' := by
  obtain ⟨⟨zs, hs, hx⟩, hsm⟩ := h
  have ea : (num zs).toNat = x.natAbs := by rw [hx, sgd_natAbs hs.wf]
  have hn0 := num_nonneg hs.wf
  have hxv : (if nb then -(x.natAbs : Int) else x.natAbs) = x := by
    rw [← ea, Int.toNat_of_nonneg hn0, hx]; rfl
  clear hx hn0
  have hB := (Below.refl w.heap.size w).alloc (Nat.le_refl _) (.cells #[.bool nb, .slice ao n ca] 52)
  have hbx := Box.new w nb ao n ca
  have hs1 := hs.below hB
  have htr := trim_sl ao n ca zs _ hs1
  rw [ea] at htr
  have HT := Lib.hid htr; clear htr ea
  have k2 := limbs_len_le x.natAbs 2
  generalize hxa : x.natAbs = a at *
  clear hxa
  have K2 := Lib.hid k2; clear k2
  obtain ⟨ro, hro⟩ : ∃ v : Value, v = .int .i64 (intOut x) := ⟨_, rfl⟩
  obtain ⟨rb, hrb⟩ : ∃ v : Value, v = .bool (fitsI x) := ⟨_, rfl⟩
  rw [← hro, ← hrb]
  have HRO := Lib.hid hro; clear hro
  have HRB := Lib.hid hrb; clear hrb
  have HXV := Lib.hid hxv; clear hxv
  by_cases ha64 : a < 18446744073709551616
  · have hkk : ∀ k, (limbs a).length = k → ((k : Int) > 2) = False := by
      intro k hk
      have := K2.out.2 (by omega)
      simp; omega
    have HKK := Lib.hid hkk; clear hkk
    go_enter Tryz.func85, Tryz.ntmps85
    go_wp2_with fail
    generalize w.alloc (.cells #[.bool nb, .slice ao n ca] 52) = W at *
    generalize hg : w.heap.size = B at *
    have HG := Lib.hid hg; clear hg
    have c0 := hbx.c0
    refine HT.out.mono ?_
    rintro e w1 ⟨k, rfl, hk, rfl⟩
    have hkg := HKK.out k hk.len
    have hkb := hk.big
    go_wp2_with fail
    refine (bits0_any a ao k ca _ hk ha64).mono ?_
    rintro e w2 ⟨rfl, hw2⟩
    have c2 := (hbx.below hw2).c0
    have hBlt := hbx.lt
    have hb2 := Lib.hid (hB.trans (hw2.mono (by omega)))
    clear hw2 hbx HT hs hs1 hk hB c0 hkg hkb
    by_cases h63 : a ≤ 9223372036854775807
    · cases nb with
      | true =>
        have hy := fits_yes (x := x) (by have := HXV.out; simp only [if_true] at this; omega)
        have HY := Lib.hid hy; clear hy
        go_wp2
        go_ret2
        refine ⟨?_, by rw [Ext, HG.out]; exact hb2.out⟩
        rw [HRO.out, HRB.out, HY.out.1, HY.out.2, ← HXV.out]; rfl
      | false =>
        have hy := fits_yes (x := x) (by have := HXV.out; simp only [Bool.false_eq_true, if_false] at this; omega)
        have HY := Lib.hid hy; clear hy
        go_wp2
        go_ret2
        refine ⟨?_, by rw [Ext, HG.out]; exact hb2.out⟩
        rw [HRO.out, HRB.out, HY.out.1, HY.out.2, ← HXV.out]; rfl
    · by_cases h64 : a = 9223372036854775808
      · subst h64
        cases nb with
        | true =>
          have hx : x = -9223372036854775808 := by have := HXV.out; simp only [if_true] at this; omega
          have HX := Lib.hid hx; clear hx
          go_wp2
          go_ret2
          refine ⟨?_, by rw [Ext, HG.out]; exact hb2.out⟩
          rw [HRO.out, HRB.out, HX.out]; rfl
        | false =>
          have hx : x = 9223372036854775808 := by have := HXV.out; simp only [Bool.false_eq_true, if_false] at this; omega
          have HX := Lib.hid hx; clear hx
          go_wp2
          go_ret2
          refine ⟨?_, by rw [Ext, HG.out]; exact hb2.out⟩
          rw [HRO.out, HRB.out, HX.out]; rfl
      · have hy := fits_no (x := x) (by have := HXV.out; cases nb <;> simp only [Bool.false_eq_true, if_false, if_true] at this <;> omega)
        have HY := Lib.hid hy; clear hy
        have hne : ((a : Int) == 9223372036854775808) = false := beq_eq_false_iff_ne.2 (by omega)
        go_wp2
        go_ret2
        refine ⟨?_, by rw [Ext, HG.out]; exact hb2.out⟩
        rw [HRO.out, HRB.out, HY.out.1, HY.out.2]; rfl
  · have hkk : ∀ k, (limbs a).length = k → 2 < k := by
      intro k hk
      have := K2.out
      rw [hk] at this
      have h9 : ¬ a < 4294967296 ^ 2 := by omega
      omega
    have HKK := Lib.hid hkk; clear hkk
    have hy := fits_no (x := x) (by have := HXV.out; cases nb <;> simp only [Bool.false_eq_true, if_false, if_true] at this <;> omega)
    have HY := Lib.hid hy; clear hy
    go_enter Tryz.func85, Tryz.ntmps85
    go_wp2_with fail
    generalize w.alloc (.cells #[.bool nb, .slice ao n ca] 52) = W at *
    generalize hg : w.heap.size = B at *
    have HG := Lib.hid hg; clear hg
    have c0 := hbx.c0
    refine HT.out.mono ?_
    rintro e w1 ⟨k, rfl, hk, rfl⟩
    have hkg := HKK.out k hk.len
    have hkb := hk.big
    have hB2 := Lib.hid hB; clear hB
    go_wp2
    go_ret2
    refine ⟨?_, by rw [Ext, HG.out]; exact hB2.out⟩
    rw [HRO.out, HRB.out, HY.out.1, HY.out.2]; rfl
end Go.Proofs.YthicfkeiggcjjaaGreatDoor

namespace Go.Proofs.YthicfkeiggcjjaaGreatDoor

/-- a dyad: none if it is not representable, otherwise the odd integer and the exponent (or two zeros) -/
abbrev Dy := Option (Int × Int)

/-- the integer in units of 2^-65536; not for none -/
def sc : Dy → Int
  | none => 0
  | some (m, e) => m * 2 ^ (e + 65536).toNat

end Go.Proofs.YthicfkeiggcjjaaGreatDoor

namespace Go.Proofs.YthicfkeiggcjjaaGreatDoor
open Go.RowKit

section
variable {W w : World} {L : List Ent} {u v : Value} {x y : Int} {N M : Nat} {c d : Bool}
end

/-- two boxes -/
theorem box_pair (w : World) (nb : Bool) (ao : Option Addr) (n ca : Nat) (mb : Bool) (bo : Option Addr) (m cb : Nat) :
    ∃ W, W = (w.alloc (.cells #[.bool nb, .slice ao n ca] 52)).alloc (.cells #[.bool mb, .slice bo m cb] 52) ∧ Ext w W ∧ Box W w.heap.size nb ao n ca ∧ Box W (w.heap.size + 1) mb bo m cb := by
  refine ⟨_, rfl, ((Below.refl _ w).alloc (Nat.le_refl _) _).alloc (by simp) _, ?_, ?_⟩
  · exact (Box.new w nb ao n ca).below ((Below.refl _ _).alloc (Nat.le_refl _) _)
  · have := Box.new (w.alloc (.cells #[.bool nb, .slice ao n ca] 52)) mb bo m cb
    simpa using this

section
variable {W w : World} {L : List Ent} {u v : Value} {x y : Int} {N M : Nat} {c d : Bool}
theorem i64_lt {i : Int} (h : -9223372036854775808 ≤ i ∧ i ≤ 9223372036854775807) : i.natAbs < 4294967296 ^ 2 := by
  have : (4294967296 : Nat) ^ 2 = 18446744073709551616 := rfl
  omega
theorem fromInt_bag (h : St W w L) (i : Int) (hi : -9223372036854775808 ≤ i ∧ i ≤ 9223372036854775807) :
    Calls Tryz.prog 45 #[.int .i64 i] w fun e w' => ∃ r, e = .returned r ∧ St W w' (⟨r, i, 2, true⟩ :: L) :=
  (fromInt_any i w hi.1 hi.2).mono fun e w' ⟨nr, ro, k, cr, he, hr, hw⟩ => ⟨_, he, h.push hw (ok_bn hr (i64_lt hi) (by omega))⟩
end
end Go.Proofs.YthicfkeiggcjjaaGreatDoor

namespace Go.Proofs.YthicfkeiggcjjaaGreatDoor

def fmag (f : Nat) : Nat := f % 9223372036854775808
def ffld (f : Nat) : Nat := fmag f / 4503599627370496
/-- the significand -/
def sig (f : Nat) : Nat := if ffld f = 0 then fmag f else fmag f % 4503599627370496 + 4503599627370496
/-- the exponent of the last place, above the least one -/
def fsh (f : Nat) : Nat := ffld f - 1
/-- the absolute value in units of the least float -/
def fz (f : Nat) : Nat := sig f * 2 ^ fsh f
end Go.Proofs.YthicfkeiggcjjaaGreatDoor

namespace Go.Proofs.YthicfkeiggcjjaaGreatDoor
open Go.RowKit

theorem Box.ext' {w w' : World} {g : Nat} {nb : Bool} {ao : Option Addr} {n ca : Nat} (h : Box w g nb ao n ca) (he : Ext w w') : Box w' g nb ao n ca := h.below he
theorem Bg.ext {w w' : World} {nb : Bool} {ao : Option Addr} {n ca : Nat} {x : Int} (h : Bg w nb ao n ca x) (he : Ext w w') : Bg w' nb ao n ca x := h.below he

end Go.Proofs.YthicfkeiggcjjaaGreatDoor

namespace Go.Proofs.YthicfkeiggcjjaaGreatDoor
open Go Go.RowKit

/-- an integer as an entry at hand -/
def bent (v : Value) (x : Int) : REnt := ⟨v, decide (x < 0), limbs x.natAbs⟩
theorem bent_bn {w : World} {nb : Bool} {ao : Option Addr} {n ca : Nat} {x : Int} (h : REnt.Ok w (bent (.agg #[.bool nb, .slice ao n ca]) x)) : Bn w nb ao n ca x := by
  obtain ⟨_, _, _, e, hs⟩ := h
  simp only [bent, Value.agg.injEq, Array.mk.injEq, List.cons.injEq, Value.bool.injEq, Value.slice.injEq, and_true] at e
  obtain ⟨rfl, rfl, rfl, rfl⟩ := e
  exact ⟨rfl, hs⟩
theorem bn_bent {w : World} {nb : Bool} {ao : Option Addr} {n ca : Nat} {x : Int} (h : Bn w nb ao n ca x) : REnt.Ok w (bent (.agg #[.bool nb, .slice ao n ca]) x) := by
  have h1 := h.neg
  have h2 := h.sl
  subst h1
  exact ⟨ao, n, ca, rfl, h2⟩
theorem bag_cons {V w w' : World} {L : List REnt} {p : REnt} (h : RSt V w L) (he : Ext w w') (hp : p.Ok w') : RSt V w' (p :: L) := ⟨h.ext.trans he, fun q hq => by
  rcases List.mem_cons.1 hq with rfl | hq
  · exact hp
  · exact (h.bag q hq).ext he⟩
theorem fromInt_ent {V w : World} {L : List REnt} (p : Int) (h : RSt V w L) (h0 : -9223372036854775808 ≤ p ∧ p ≤ 9223372036854775807) :
    Calls Tryz.prog 45 #[.int .i64 p] w fun e w' => ∃ fn fo fk fc, e = .returned (.agg #[.bool fn, .slice fo fk fc]) ∧ Ext w w' ∧ RSt V w' (bent (.agg #[.bool fn, .slice fo fk fc]) p :: L) :=
  (fromInt_any p w h0.1 h0.2).mono fun _ _ ⟨nr, ro, k, cr, he, hn, hw⟩ => ⟨nr, ro, k, cr, he, hw, bag_cons h hw (bn_bent hn)⟩
theorem one_len {p : Int} (h0 : 0 < p) (hp : p ≤ 2147483648) : (limbs p.natAbs).length ≤ 1 := (limbs_len_le _ 1).2 (by omega)
theorem bent_bg {w : World} {nb : Bool} {ao : Option Addr} {n ca : Nat} {p : Int} (h : REnt.Ok w (bent (.agg #[.bool nb, .slice ao n ca]) p)) (h0 : 0 < p) (hp : p ≤ 2147483648) : Bg w nb ao n ca p := by
  have hb := bent_bn h
  have := one_len h0 hp
  rw [hb.sl.len] at this
  exact hb.bg (by omega)
theorem divMod_ent {V w : World} {L : List REnt} (nb : Bool) (ao : Option Addr) (n ca : Nat) (x p : Int) (fn : Bool) (fo : Option Addr) (fk fc : Nat) (h : RSt V w (bent (.agg #[.bool fn, .slice fo fk fc]) p :: L)) (ha : Bg w nb ao n ca x) (hn : n ≤ 100000000) (h0 : 0 < p) (hp : p ≤ 2147483648) :
    Calls Tryz.prog 84 #[.agg #[.bool nb, .slice ao n ca], .agg #[.bool fn, .slice fo fk fc]] w fun e w' => ∃ xn xo xk xc yn yo yk yc, e = .returned (.tuple #[.agg #[.bool xn, .slice xo xk xc], .agg #[.bool yn, .slice yo yk yc], .int .i64 0]) ∧ Ext w w' ∧ RSt V w' [bent (.agg #[.bool yn, .slice yo yk yc]) (x % p)] := by
  have hb := bent_bg (h.bag _ (List.Mem.head _)) h0 hp
  refine (divMod_any nb fn ao n ca fo fk fc x p w ha hb (by omega) hn (div_says _ _ (by omega))).mono fun e w' ⟨xn, xo, xk, xc, yn, yo, yk, yc, he, _, hr, hw⟩ => ⟨xn, xo, xk, xc, yn, yo, yk, yc, he, hw, h.ext.trans hw, fun q hq => ?_⟩
  rw [List.mem_singleton] at hq
  subst hq
  exact bn_bent hr
theorem bn_small {w : World} {nb : Bool} {ao : Option Addr} {n ca : Nat} {z : Int} (h : Bn w nb ao n ca z) (hz : z.natAbs < 4294967296) : Bg w nb ao n ca z := by
  have := (limbs_len_le z.natAbs 1).2 (by omega)
  rw [h.sl.len] at this
  exact h.bg (by omega)
theorem mod_abs {x p : Int} (h0 : 0 < p) (hp : p ≤ 2147483648) : (x % p).natAbs < 4294967296 := by
  have h1 := Int.emod_nonneg x (show p ≠ 0 by omega)
  have h2 := Int.emod_lt_of_pos x h0
  omega
theorem mod_small {x p : Int} (h0 : 0 < p) (hp : p ≤ 2147483648) : intOut (x % p) = x % p ∧ fitsI (x % p) = true := by
  have h1 := Int.emod_nonneg x (show p ≠ 0 by omega)
  have h2 := Int.emod_lt_of_pos x h0
  have := fits_yes (x := x % p) (by omega)
  exact ⟨this.2, this.1⟩
end Go.Proofs.YthicfkeiggcjjaaGreatDoor
