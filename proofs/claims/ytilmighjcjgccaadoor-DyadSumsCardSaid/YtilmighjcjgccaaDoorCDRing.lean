/- DyadRing returns true, from what its callees do. -/
import Derived.Test.YtilmighjcjgccaaDoorGp
namespace Go.Proofs.YtilmighjcjgccaaDoor
open Go.RowKit

theorem boxes_three_d (w : World) (ab an : Bool) (ao : Option Addr) (ak ac : Nat) (af : Int) (bb bn : Bool) (bo : Option Addr) (bk bc : Nat) (bf : Int) (cb cn : Bool) (co : Option Addr) (ck cc : Nat) (cf : Int) :
    ∃ W, W = ((w.alloc (.cells #[.bool ab, .bool an, .slice ao ak ac, .int .i64 af] 29)).alloc (.cells #[.bool bb, .bool bn, .slice bo bk bc, .int .i64 bf] 29)).alloc (.cells #[.bool cb, .bool cn, .slice co ck cc, .int .i64 cf] 29) ∧ Ext w W ∧
      DBox W w.heap.size ab an ao ak ac af ∧ DBox W (w.heap.size + 1) bb bn bo bk bc bf ∧ DBox W (w.heap.size + 1 + 1) cb cn co ck cc cf := by
  refine ⟨_, rfl, (((Below.refl _ w).alloc (Nat.le_refl _) _).alloc (by simp) _).alloc (by simp; omega) _, ?_, ?_, ?_⟩
  · exact (DBox.new w ab an ao ak ac af).below (((Below.refl _ _).alloc (Nat.le_refl _) _).alloc (by simp) _)
  · have := (DBox.new (w.alloc (.cells #[.bool ab, .bool an, .slice ao ak ac, .int .i64 af] 29)) bb bn bo bk bc bf).below ((Below.refl _ _).alloc (Nat.le_refl _) (.cells #[.bool cb, .bool cn, .slice co ck cc, .int .i64 cf] 29))
    simpa using this
  · have := DBox.new ((w.alloc (.cells #[.bool ab, .bool an, .slice ao ak ac, .int .i64 af] 29)).alloc (.cells #[.bool bb, .bool bn, .slice bo bk bc, .int .i64 bf] 29)) cb cn co ck cc cf
    simpa using this

theorem dslim_at (bb nb : Bool) (ao : Option Addr) (n ca : Nat) (f : Int) (w : World) (r : Bool) (hr : slimSays n f 20 2000 = r) :
    Calls Tryd.prog 7 #[.agg #[.bool bb, .bool nb, .slice ao n ca, .int .i64 f]] w fun e w' => e = .returned (.bool r) ∧ Ext w w' := by
  have := dslim_any bb nb ao n ca f w
  rwa [hr] at this

/-- the number of a raw dyad -/
def draw (bb : Bool) (x f : Int) : Dy := if bb then none else dmk x f

/-- what is known of a raw dyad that may be too long -/
def RawD (w : World) (_bb _nb : Bool) (ao : Option Addr) (n ca : Nat) (f : Int) : Prop := -9223372036854775808 ≤ f ∧ f ≤ 9223372036854775807 ∧ (n ≤ 1099511627776 → ∃ zs, Sl w ao n ca zs)

theorem RawD.slim {w : World} {bb nb : Bool} {ao : Option Addr} {n ca : Nat} {f : Int} (h : RawD w bb nb ao n ca f) (hs : slimSays n f 20 2000 = true) :
    ∃ d, Dl w (.agg #[.bool bb, .bool nb, .slice ao n ca, .int .i64 f]) d ∧ (d ≠ none → Slim d) := by
  obtain ⟨h1, h2, h3⟩ := h
  unfold slimSays at hs
  simp only [decide_eq_true_eq] at hs
  obtain ⟨hn, hf⟩ := hs
  obtain ⟨zs, hz⟩ := h3 (by omega)
  have hbg : Bg w nb ao n ca (sgd nb zs) := ⟨⟨zs, hz, rfl⟩, by omega⟩
  have hbl := bg_blen hbg
  refine ⟨_, ⟨bb, nb, ao, n, ca, _, f, rfl, hbg, by omega, h1, h2, rfl⟩, ?_⟩
  cases bb with
  | true => intro h; exact absurd rfl h
  | false => intro h; exact slim_of (by omega) (by omega) h

theorem none_parts {w : World} {r : Value} (h : Dn w r none) : ∃ nb ao n ca e, r = .agg #[.bool true, .bool nb, .slice ao n ca, .int .i64 e] ∧
    ∀ w : World, (Instr.field 29 (.agg #[.bool true, .bool nb, .slice ao n ca, .int .i64 e]) 0).run Tryd.prog w = .ok (.bool true) w := by
  obtain ⟨_, nb, ao, n, ca, rfl, _⟩ := h
  exact ⟨nb, ao, n, ca, dx none, rfl, fun _ => by kernel_rfl⟩
theorem DSt.dn0 {W w : World} {L : List DEnt} {v : Value} {d : Dy} (h : DSt W w (⟨v, d, true⟩ :: L)) (hd : d = none) : Dn w v none := by
  subst hd; exact h.dn (List.Mem.head _)

end Go.Proofs.YtilmighjcjgccaaDoor
