/- What dyad.isPrec, isOdd, withTail and rounded do. -/
import Derived.Test.YtjohpdobnedilaaDoorGl
import Derived.Deep.CutBlock
namespace Go.Proofs.YtjohpdobnedilaaDoor
open Go.RowKit

theorem and_one {z : Int} (h0 : 0 ≤ z) (h1 : z < 4294967296) : bits BinOp.and IntKind.u32 z 1 = z % 2 := by
  obtain ⟨k, rfl⟩ : ∃ k : Nat, z = (k : Int) := ⟨z.toNat, by omega⟩
  have h1 : (BitVec.ofInt 32 (k : Int)).toNat = k := by
    rw [BitVec.ofInt_natCast, BitVec.toNat_ofNat]; exact Nat.mod_eq_of_lt (by omega)
  show IntKind.u32.wrap ((BitVec.ofInt 32 (k : Int) &&& BitVec.ofInt 32 1).toNat : Int) = _
  rw [BitVec.toNat_and, h1, show (BitVec.ofInt 32 1).toNat = 1 from rfl, Nat.and_one_is_mod]
  simp only [IntKind.wrap, IntKind.bits, IntKind.signed, Bool.false_and, Bool.false_eq_true, if_false]
  omega

theorem blen_two (x : Int) : blen (x * 2).natAbs ≤ blen x.natAbs + 2 := by
  have h1 := blen_mul_le x 2
  have h2 : blen (2 : Int).natAbs = 2 := by decide
  omega

theorem Box.ext' {w w' : World} {g : Nat} {nb : Bool} {ao : Option Addr} {n ca : Nat} (h : Box w g nb ao n ca) (he : Ext w w') : Box w' g nb ao n ca := h.below he
theorem Bg.ext {w w' : World} {nb : Bool} {ao : Option Addr} {n ca : Nat} {x : Int} (h : Bg w nb ao n ca x) (he : Ext w w') : Bg w' nb ao n ca x := h.below he

/-- the result is the normalized integer x -/
def BigOut (x : Int) (e : Ending) (w' : World) : Prop := ∃ nr ro k cr, e = .returned (.agg #[.bool nr, .slice ro k cr]) ∧ Bn w' nr ro k cr x

end Go.Proofs.YtjohpdobnedilaaDoor

/- What dyad.rounded and Round do. -/
namespace Go.Proofs.YtjohpdobnedilaaDoor
open Go.RowKit

/-- is the multiple above taken -/
def rup (x : Int) (k : Nat) (mode : Int) : Bool :=
  if mode = 1 then false else if mode = 2 then true else if mode = 3 then decide (x < 0) else
  decide ((x / 2 ^ k).natAbs % 2 = 1) && (!decide (tzf x.natAbs = k) || decide ((x / 2 ^ k / 2).natAbs % 2 = 1))

/-- x times 2^e rounded to p bits -/
def drd (x e : Int) (p : Nat) (mode : Int) : Dy :=
  if blen x.natAbs ≤ p + tzf x.natAbs then dmk x e
  else dmk (x / 2 ^ (blen x.natAbs - p - 1) / 2 + if rup x (blen x.natAbs - p - 1) mode then 1 else 0) (e + ((blen x.natAbs - p - 1 : Nat) + 1))

theorem boxes_bd2 (w : World) (nb : Bool) (ao : Option Addr) (n cap : Nat) :
    ∃ W, W = (w.alloc (.cells #[.bool nb, .slice ao n cap] 41)).alloc (.cells #[.bool false, .bool false, .slice none 0 0, .int .i64 0] 43) ∧ Below w.heap.size w W ∧ Box W w.heap.size nb ao n cap ∧ DBox W (w.heap.size + 1) false false none 0 0 0 ∧ w.heap.size + 2 ≤ W.heap.size := boxes_bd w nb ao n cap

end Go.Proofs.YtjohpdobnedilaaDoor

/- What dyad.Quo does. -/
namespace Go.Proofs.YtjohpdobnedilaaDoor
open Go.RowKit

/-- x times 2^s, rounded down -/
def shf (x s : Int) : Int := if 0 ≤ s then x * 2 ^ s.toNat else x / 2 ^ (-s).toNat

theorem blen_shf (x s : Int) : blen (shf x s).natAbs ≤ blen x.natAbs + s.toNat := by
  unfold shf
  split
  · by_cases h : x = 0
    · subst h; simp [blen]
    · rw [natAbs_shift, blen_mul (by omega)]; exact Nat.le_refl _
  · refine Nat.le_trans (blen_le_of_lt (Nat.lt_of_le_of_lt (Int.natAbs_ediv_le_natAbs x _) (blen_lt _))) (by omega)
theorem shf_nonneg {x s : Int} (h : 0 ≤ x) : 0 ≤ shf x s := by
  unfold shf
  split
  · exact Int.mul_nonneg h (Int.le_of_lt (two_pos _))
  · exact Int.ediv_nonneg h (Int.le_of_lt (two_pos _))

/-- the shift of a quotient -/
def qsh (m m' p : Int) : Int := p + 1 + (blen m'.natAbs : Int) - blen m.natAbs
/-- the quotient with its tail -/
def qtail (m m' p : Int) : Int :=
  2 * (shf m.natAbs (qsh m m' p) / m'.natAbs) + if decide (qsh m m' p < 0) || sgn3 (shf m.natAbs (qsh m m' p) % m'.natAbs) 0 != 0 then 1 else 0
def qsgn (m m' N : Int) : Int := if (decide (m < 0)) != (decide (m' < 0)) then -N else N

/-- the rounded quotient -/
def dquo (d d' : Dy) (p mode : Int) : Dy := match d, d' with
  | some (m, e), some (m', e') => if 1 ≤ p ∧ p ≤ 4096 ∧ m' ≠ 0 then drd (qsgn m m' (qtail m m' p)) (e - e' - qsh m m' p - 1) p.toNat mode else none
  | _, _ => none

theorem bg_abs {w : World} {nb : Bool} {ao : Option Addr} {n ca : Nat} {x : Int} (h : Bg w nb ao n ca x) : Bg w false ao n ca x.natAbs := by
  obtain ⟨⟨zs, hs, hx⟩, hsm⟩ := h
  refine ⟨⟨zs, hs, ?_⟩, hsm⟩
  rw [hx, sgd_natAbs hs.wf]
  have := num_nonneg hs.wf
  simp [sgd]
  omega
theorem bg_sgn {w : World} {nb mb : Bool} {ao : Option Addr} {n ca : Nat} {x : Int} (h : Bg w nb ao n ca x) (h0 : 0 ≤ x) : Bg w mb ao n ca (if mb then -x else x) := by
  obtain ⟨⟨zs, hs, hx⟩, hsm⟩ := h
  refine ⟨⟨zs, hs, ?_⟩, hsm⟩
  have := num_nonneg hs.wf
  unfold sgd at hx ⊢
  cases nb <;> cases mb <;> simp at hx ⊢ <;> omega

end Go.Proofs.YtjohpdobnedilaaDoor
