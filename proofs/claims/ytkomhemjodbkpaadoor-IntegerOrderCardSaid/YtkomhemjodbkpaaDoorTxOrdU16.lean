import Derived.Test.YtkomhemjodbkpaaDoorTxOrdU13
import Derived.Test.YtkomhemjodbkpaaDoorTxOrdU9
import Derived.Deep.RegionHeld3
import Derived.Test.YtkomhemjodbkpaaDoorTxOrdU14
import Derived.Test.YtkomhemjodbkpaaDoorTxOrdU15
import Derived.Test.YtkomhemjodbkpaaDoorTxOrdU4
import Derived.Laws.Bits64
import Derived.Laws.Bits64b
import Derived.Deep.QuietTactic
import Derived.BigQuiet
namespace Go.Proofs.YtkomhemjodbkpaaDoor
open Go.RowKit

/-- later, with all that was there as it was -/
def Ext (w w' : World) : Prop := Below w.heap.size w w'
theorem Ext.refl (w : World) : Ext w w := Below.refl _ _
theorem Ext.trans {a b c : World} (h : Ext a b) (k : Ext b c) : Ext a c := Below.trans h (Below.mono k h.size)

/-- a value, the number that it stands for, how many limbs it has at most, is it normalized -/
structure Ent where
  v : Value
  x : Int
  N : Nat
  c : Bool

def Ent.Ok (w : World) (p : Ent) : Prop :=
  ∃ nb ao n ca, p.v = .agg #[.bool nb, .slice ao n ca] ∧ Bg w nb ao n ca p.x ∧ n ≤ p.N ∧ p.x.natAbs < 4294967296 ^ p.N ∧ (p.c = true → Bn w nb ao n ca p.x)

theorem Ent.Ok.ext {w w' : World} {p : Ent} (h : p.Ok w) (he : Ext w w') : p.Ok w' := by
  obtain ⟨nb, ao, n, ca, h1, h2, h3, h4, h5⟩ := h
  exact ⟨nb, ao, n, ca, h1, h2.below he, h3, h4, fun e => (h5 e).below he⟩

/-- what is at hand -/
structure St (W w : World) (L : List Ent) : Prop where
  ext : Ext W w
  bag : ∀ p ∈ L, p.Ok w

theorem St.step {W w w' : World} {L : List Ent} (h : St W w L) (he : Ext w w') : St W w' L := ⟨h.ext.trans he, fun p hp => (h.bag p hp).ext he⟩
theorem St.push {W w w' : World} {L : List Ent} (h : St W w L) (he : Ext w w') {p : Ent} (hp : p.Ok w') : St W w' (p :: L) :=
  ⟨h.ext.trans he, fun q hq => by
    rcases List.mem_cons.1 hq with rfl | hq
    · exact hp
    · exact (h.bag q hq).ext he⟩
theorem St.drew {W w : World} {L : List Ent} (h : St W w L) : St W w.drew L := h.step (Below.refl _ _).drew
theorem St.drewN {W w : World} {L : List Ent} (h : St W w L) (q : Nat) : St W (w.drewN q) L := h.step (below_drewN (Below.refl _ _) q)

theorem len_of_lt {x : Int} {N : Nat} (h : x.natAbs < 4294967296 ^ N) : (limbs x.natAbs).length ≤ N := (limbs_len_le _ _).2 h

/-- a normalized result -/
theorem ok_bn {w : World} {nb : Bool} {ao : Option Addr} {n ca : Nat} {x : Int} {N : Nat} (h : Bn w nb ao n ca x) (hx : x.natAbs < 4294967296 ^ N) (hN : N ≤ 1000000000) : Ent.Ok w ⟨.agg #[.bool nb, .slice ao n ca], x, N, true⟩ := by
  have hl := len_of_lt hx
  rw [h.sl.len] at hl
  exact ⟨nb, ao, n, ca, rfl, h.bg (by omega), hl, hx, fun _ => h⟩

theorem pow_le {a b : Nat} (h : a ≤ b) : 4294967296 ^ a ≤ 4294967296 ^ b := Nat.pow_le_pow_right (by omega) h

theorem abs_add {x y : Int} {N M : Nat} (hx : x.natAbs < 4294967296 ^ N) (hy : y.natAbs < 4294967296 ^ M) : (x + y).natAbs < 4294967296 ^ (max N M + 1) := by
  have h1 := Nat.lt_of_lt_of_le hx (pow_le (Nat.le_max_left N M))
  have h2 := Nat.lt_of_lt_of_le hy (pow_le (Nat.le_max_right N M))
  have h3 := Int.natAbs_add_le x y
  rw [Nat.pow_succ]
  omega
theorem abs_sub {x y : Int} {N M : Nat} (hx : x.natAbs < 4294967296 ^ N) (hy : y.natAbs < 4294967296 ^ M) : (x - y).natAbs < 4294967296 ^ (max N M + 1) := by
  have := abs_add hx (y := -y) (M := M) (by rw [Int.natAbs_neg]; exact hy)
  rwa [← Int.sub_eq_add_neg] at this
section
variable {W w : World} {L : List Ent} {u v : Value} {x y : Int} {N M : Nat} {c d : Bool}

theorem add_bag (h : St W w L) (h1 : ⟨u, x, N, c⟩ ∈ L) (h2 : ⟨v, y, M, d⟩ ∈ L) (hN : N ≤ 100000) (hM : M ≤ 100000) :
    Calls Tryd.prog 15 #[u, v] w fun e w' => ∃ r, e = .returned r ∧ St W w' (⟨r, x + y, max N M + 1, true⟩ :: L) := by
  obtain ⟨nb, ao, n, ca, rfl, b1, n1, a1, _⟩ := h.bag _ h1
  obtain ⟨mb, bo, m, cb, rfl, b2, n2, a2, _⟩ := h.bag _ h2
  refine (add_any nb mb ao n ca bo m cb x y w b1 b2).mono fun e w' ⟨nr, ro, k, cr, he, hr, hw⟩ => ⟨_, he, h.push hw (ok_bn hr (abs_add a1 a2) (by omega))⟩

theorem sub_bag (h : St W w L) (h1 : ⟨u, x, N, c⟩ ∈ L) (h2 : ⟨v, y, M, d⟩ ∈ L) (hN : N ≤ 100000) (hM : M ≤ 100000) :
    Calls Tryd.prog 14 #[u, v] w fun e w' => ∃ r, e = .returned r ∧ St W w' (⟨r, x - y, max N M + 1, true⟩ :: L) := by
  obtain ⟨nb, ao, n, ca, rfl, b1, n1, a1, _⟩ := h.bag _ h1
  obtain ⟨mb, bo, m, cb, rfl, b2, n2, a2, _⟩ := h.bag _ h2
  refine (sub_any nb mb ao n ca bo m cb x y w b1 b2).mono fun e w' ⟨nr, ro, k, cr, he, hr, hw⟩ => ⟨_, he, h.push hw (ok_bn hr (abs_sub a1 a2) (by omega))⟩

theorem norm_bag (h : St W w L) (h1 : ⟨u, x, N, c⟩ ∈ L) (hN : N ≤ 100000) :
    Calls Tryd.prog 18 #[u] w fun e w' => ∃ r, e = .returned r ∧ St W w' (⟨r, x, N, true⟩ :: L) := by
  obtain ⟨nb, ao, n, ca, rfl, b1, n1, a1, _⟩ := h.bag _ h1
  refine (norm_any nb ao n ca x w b1).mono fun e w' ⟨nr, ro, k, cr, he, hr, hw⟩ => ⟨_, he, h.push hw (ok_bn hr a1 (by omega))⟩

theorem big_bag (h : St W w L) (h1 : ⟨u, x, N, true⟩ ∈ L) (h2 : ⟨v, y, M, true⟩ ∈ L) (hxy : x = y) :
    Calls Tryd.prog 9 #[u, v] w fun e w' => e = .returned (.bool true) ∧ St W w' L := by
  obtain ⟨nb, ao, n, ca, rfl, _, _, _, c1⟩ := h.bag _ h1
  obtain ⟨mb, bo, m, cb, rfl, _, _, _, c2⟩ := h.bag _ h2
  refine (big_eq nb mb ao n ca bo m cb x y w (c1 rfl) (c2 rfl) hxy).mono fun e w' ⟨he, hw⟩ => ⟨he, h.step hw⟩
end

theorem ok_zero (w : World) : Ent.Ok w ⟨.agg #[.bool false, .slice none 0 0], 0, 0, true⟩ := by
  have hb : Bn w false none 0 0 0 := ⟨by simp, by simp [limbs_zero]; exact Sl.nil w⟩
  exact ok_bn hb (by simp) (by omega)

/-- a small raw argument -/
theorem ok_raw {w : World} {nb : Bool} {ao : Option Addr} {n ca : Nat} {zs : List Int} (h : Sl w ao n ca zs) (N : Nat) (hn : n ≤ N) (hN : N ≤ 100000) : Ent.Ok w ⟨.agg #[.bool nb, .slice ao n ca], sgd nb zs, N, false⟩ := by
  refine ⟨nb, ao, n, ca, rfl, ⟨⟨zs, h, rfl⟩, by omega⟩, hn, ?_, fun e => by cases e⟩
  simp only
  rw [sgd_natAbs h.wf]
  have h1 := num_lt h.wf
  have h2 := num_nonneg h.wf
  rw [h.len] at h1
  have h3 : ((num zs).toNat : Int) < ((4294967296 ^ n : Nat) : Int) := by rw [Int.toNat_of_nonneg h2, Int.natCast_pow]; exact h1
  exact Nat.lt_of_lt_of_le (Int.ofNat_lt.1 h3) (pow_le hn)

theorem slim_yes (nb : Bool) (ao : Option Addr) (n ca k : Nat) (w : World) (h : n ≤ k) :
    Calls Tryd.prog 5 #[.agg #[.bool nb, .slice ao n ca], .int .i64 k] w fun e w' => e = .returned (.bool true) ∧ Ext w w' :=
  (slim_any nb ao n ca k w).mono fun _ _ ⟨he, hw⟩ => ⟨by rw [he]; simp [h], hw⟩
theorem slim_no (nb : Bool) (ao : Option Addr) (n ca k : Nat) (w : World) (h : ¬ n ≤ k) :
    Calls Tryd.prog 5 #[.agg #[.bool nb, .slice ao n ca], .int .i64 k] w fun e w' => e = .returned (.bool false) ∧ Ext w w' :=
  (slim_any nb ao n ca k w).mono fun _ _ ⟨he, hw⟩ => ⟨by rw [he]; simp [h], hw⟩
end Go.Proofs.YtkomhemjodbkpaaDoor

namespace Go.Proofs.YtkomhemjodbkpaaDoor
open Go.RowKit

/-- what the check of fixed numbers gives -/
def AwakeSays (W : World) : Prop := ∀ w, Ext W w → Calls Tryd.prog 6 #[] w fun e w' => e = .returned (.bool true) ∧ Ext w w'

theorem boxes_in (w : World) (nb : Bool) (ao : Option Addr) (n ca : Nat) (mb : Bool) (bo : Option Addr) (m cb : Nat) (lb : Bool) (co : Option Addr) (l cc : Nat) :
    ∃ W, W = ((w.alloc (.cells #[.bool nb, .slice ao n ca] 24)).alloc (.cells #[.bool mb, .slice bo m cb] 24)).alloc (.cells #[.bool lb, .slice co l cc] 24) ∧ Ext w W ∧
      Box W w.heap.size nb ao n ca ∧ Box W (w.heap.size + 1) mb bo m cb ∧ Box W (w.heap.size + 1 + 1) lb co l cc := by
  refine ⟨_, rfl, (((Below.refl _ w).alloc (Nat.le_refl _) _).alloc (by simp) _).alloc (by simp; omega) _, ?_, ?_, ?_⟩
  · exact (Box.new w nb ao n ca).below (((Below.refl _ _).alloc (Nat.le_refl _) _).alloc (by simp) _)
  · have := (Box.new (w.alloc (.cells #[.bool nb, .slice ao n ca] 24)) mb bo m cb).below ((Below.refl _ _).alloc (Nat.le_refl _) (.cells #[.bool lb, .slice co l cc] 24))
    simpa using this
  · have := Box.new ((w.alloc (.cells #[.bool nb, .slice ao n ca] 24)).alloc (.cells #[.bool mb, .slice bo m cb] 24)) lb co l cc
    simpa using this

end Go.Proofs.YtkomhemjodbkpaaDoor

namespace Go.Proofs.YtkomhemjodbkpaaDoor
open Go.RowKit

theorem or_hl {h l : Int} (h0 : 0 ≤ h) (h1 : h < 4294967296) (l0 : 0 ≤ l) (l1 : l < 4294967296) : bits BinOp.or IntKind.u64 (h * 4294967296) l = h * 4294967296 + l := by
  obtain ⟨a, rfl⟩ := Int.eq_ofNat_of_zero_le h0
  obtain ⟨b, rfl⟩ := Int.eq_ofNat_of_zero_le l0
  have e := bits_or_u64_nat (a * 4294967296) b (by omega) (by omega)
  have e2 : a * 4294967296 ||| b = a * 4294967296 + b := by
    have := Nat.two_pow_add_eq_or_of_lt (i := 32) (b := b) (by omega) a
    rw [show (2 : Nat) ^ 32 = 4294967296 from rfl] at this
    rw [Nat.mul_comm a, ← this]
  rw [e2] at e
  simpa using e

set_option maxRecDepth 100000 in
set_option maxHeartbeats 1000000 in
theorem div32_any (h l y : Int) (w : World) (h0 : 0 ≤ h) (hy : h < y) (y1 : y < 4294967296) (l0 : 0 ≤ l) (l1 : l < 4294967296) :
    Calls Tryd.prog 77 #[.int .u32 h, .int .u32 l, .int .u32 y] w fun e w' => e = .returned (.tuple #[.int .u32 ((h * 4294967296 + l) / y), .int .u32 ((h * 4294967296 + l) % y)]) ∧ ∃ q, w' = w.drewN q := by
  have hyb : (y != 0) = true := by simp; omega
  have hq0 : 0 ≤ (h * 4294967296 + l) / y := Int.ediv_nonneg (by omega) (by omega)
  have hq1 : (h * 4294967296 + l) / y < 4294967296 := by
    apply Int.ediv_lt_of_lt_mul (by omega)
    have : (h + 1) * 4294967296 ≤ y * 4294967296 := Int.mul_le_mul_of_nonneg_right (by omega) (by omega)
    rw [Int.mul_comm 4294967296 y]
    omega
  have hr0 : 0 ≤ (h * 4294967296 + l) % y := Int.emod_nonneg _ (by omega)
  have hr1 : (h * 4294967296 + l) % y < y := Int.emod_lt_of_pos _ (by omega)
  have hor := or_hl h0 (by omega) l0 l1
  have hge : decide (y ≤ h) = false := by simp; omega
  go_enter Tryd.func77, Tryd.ntmps77
  go_wp2
  go_quiet (fail)
  go_wp2
  go_ret2
  exact ⟨rfl, nq, rfl⟩
end Go.Proofs.YtkomhemjodbkpaaDoor
