/- What the laws of floats have in common: raw dyads, contracts over letters. -/
import Derived.Test.YthakjcdchaimpaaDoorCFRd
import Derived.Test.YthakjcdchaimpaaDoorCDRing
import Derived.Test.YthakjcdchaimpaaDoorCFadd2
namespace Go.Proofs.YthakjcdchaimpaaDoor
open Go.RowKit

theorem RawD.dl {w : World} {bb nb : Bool} {ao : Option Addr} {n ca : Nat} {f : Int} {k b : Nat} (h : RawD w bb nb ao n ca f) (hs : slimSays n f k b = true) (hk : k ≤ 1000) :
    ∃ d, Dl w (.agg #[.bool bb, .bool nb, .slice ao n ca, .int .i64 f]) d ∧ ((-(b : Int) ≤ f ∧ f ≤ b) ∨ d = none ∨ d = some (0, 0)) ∧ Nd d := by
  obtain ⟨h1, h2, h3⟩ := h
  unfold slimSays at hs
  simp only [decide_eq_true_eq] at hs
  obtain ⟨hn, hf⟩ := hs
  obtain ⟨zs, hz⟩ := h3 (by omega)
  have hbg : Bg w nb ao n ca (sgd nb zs) := ⟨⟨zs, hz, rfl⟩, by omega⟩
  have hbl := bg_blen hbg
  refine ⟨_, ⟨bb, nb, ao, n, ca, _, f, rfl, hbg, by omega, h1, h2, rfl⟩, ?_, ?_⟩
  · cases bb with
    | true => right; left; rfl
    | false =>
      rcases hf with h | h
      · left; exact h
      · right
        by_cases h0 : sgd nb zs = 0
        · right; simp only [Bool.false_eq_true, if_false]; rw [h0, dmk_zero]
        · left
          have ht := tzf_lt (show (sgd nb zs).natAbs ≠ 0 by omega)
          simp only [Bool.false_eq_true, if_false]
          unfold dmk
          rw [if_neg h0, if_pos (by omega)]
  · cases bb with
    | true => trivial
    | false => exact dmk_nd _ _

theorem slim_no_at (bb nb : Bool) (ao : Option Addr) (n ca : Nat) (f : Int) (w : World) (r : Bool) (h : slimSays n f 20 3000 = r) :
    Calls Tryd.prog 22 #[.agg #[.bool bb, .bool nb, .slice ao n ca, .int .i64 f], .int .i64 20, .int .i64 3000] w fun e w' => e = .returned (.bool r) ∧ Ext w w' := by
  rw [← h]; exact kitSlim_any bb nb ao n ca f 20 3000 w (by omega) (by omega)

theorem absF_at {a r : Nat} (ha : a < 18446744073709551616) (h : fabsF a = r) (w : World) : Calls Tryd.prog 15 #[.int .u64 (a : Int)] w fun e w' => e = .returned (.int .u64 (r : Int)) ∧ w = w' := by rw [← h]; exact absF_any a ha w
theorem kindF_at {a : Nat} {r : Int} (ha : a < 18446744073709551616) (h : fkind a = r) (w : World) : Calls Tryd.prog 16 #[.int .u64 (a : Int)] w fun e w' => e = .returned (.int .i64 r) ∧ w = w' := by rw [← h]; exact kind_any a ha w
theorem addF_at {a b r : Nat} {mode : Int} (ha : a < 18446744073709551616) (hb : b < 18446744073709551616) (h : faddF a b mode = r) (w : World) : Calls Tryd.prog 47 #[.int .u64 (a : Int), .int .u64 (b : Int), .int .i64 mode] w fun e w' => e = .returned (.int .u64 (r : Int)) ∧ Ext w w' := by rw [← h]; exact fadd_any a b mode ha hb w
theorem mulF_at {a b r : Nat} {mode : Int} (ha : a < 18446744073709551616) (hb : b < 18446744073709551616) (h : fmulF a b mode = r) (w : World) : Calls Tryd.prog 49 #[.int .u64 (a : Int), .int .u64 (b : Int), .int .i64 mode] w fun e w' => e = .returned (.int .u64 (r : Int)) ∧ Ext w w' := by rw [← h]; exact fmul_any a b mode ha hb w
theorem divF_at {a b r : Nat} {mode : Int} (ha : a < 18446744073709551616) (hb : b < 18446744073709551616) (h : fdivF a b mode = r) (w : World) : Calls Tryd.prog 18 #[.int .u64 (a : Int), .int .u64 (b : Int), .int .i64 mode] w fun e w' => e = .returned (.int .u64 (r : Int)) ∧ Ext w w' := by rw [← h]; exact fdiv_any a b mode ha hb w
theorem frd_at {v : Value} {d : Dy} {mode : Int} {r : Nat} {w : World} (hv : Dg w v d) (hT : Table w) (h : frdF d mode = r) : Calls Tryd.prog 48 #[v, .int .i64 mode] w fun e w' => e = .returned (.int .u64 (r : Int)) ∧ Ext w w' := by rw [← h]; exact frd_any v d mode w hv hT
theorem flt_of_nan {f : Nat} (h : nanB f = false → f < 18446744073709551616) (h2 : nanB f = true → f < 18446744073709551616) : f < 18446744073709551616 := by
  cases hn : nanB f
  · exact h hn
  · exact h2 hn
theorem fma_lt {a b c : Nat} (mode : Int) (hc : c < 18446744073709551616) : fmaF a b c mode < 18446744073709551616 := by
  have h1 := sgz_le (fneg a != fneg b)
  have h2 := (cancel_num mode).2.1
  have h3 := fun S m => (rsum_num S m mode).2
  unfold fmaF
  repeat' split
  all_goals first | omega | exact h3 _ _
theorem fadd_lt {a b : Nat} (mode : Int) (hb : b < 18446744073709551616) : faddF a b mode < 18446744073709551616 := fma_lt mode hb
theorem fmul_lt {a b : Nat} (mode : Int) : fmulF a b mode < 18446744073709551616 := fma_lt mode (by have := sgz_le (fneg a != fneg b); omega)
theorem fdiv_lt {a b : Nat} (mode : Int) : fdivF a b mode < 18446744073709551616 := by
  have h1 := sgz_le (fneg a != fneg b)
  have h3 := fun N e t => fla_le (fneg a != fneg b) N e t mode
  unfold fdivF
  repeat' split
  all_goals first | omega | (have := h3 (quoX (sig a) / quoY (sig b)) (quoE (sig a) (sig b) (-1074 + (fsh a : Int)) (-1074 + (fsh b : Int))) (decide (quoX (sig a) % quoY (sig b) ≠ 0)); omega)
end Go.Proofs.YthakjcdchaimpaaDoor
