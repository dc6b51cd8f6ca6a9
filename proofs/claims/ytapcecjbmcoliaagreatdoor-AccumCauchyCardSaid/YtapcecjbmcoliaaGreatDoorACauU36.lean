import Derived.Test.YtapcecjbmcoliaaGreatDoorACauU17
import Derived.Test.YtapcecjbmcoliaaGreatDoorACauU20
import Derived.Test.YtapcecjbmcoliaaGreatDoorACauU35
import Derived.Test.YtapcecjbmcoliaaGreatDoorACauU32
import Derived.Test.YtapcecjbmcoliaaGreatDoorACauU34
import Derived.Test.YtapcecjbmcoliaaGreatDoorACauU5
import Derived.Deep.CutRange
import Derived.Deep.CutBlock
import Derived.Test.YtapcecjbmcoliaaGreatDoorACauU12
import Derived.Test.YtapcecjbmcoliaaGreatDoorACauU13
import Derived.Test.YtapcecjbmcoliaaGreatDoorACauU24
import Derived.Test.YtapcecjbmcoliaaGreatDoorACauU33
import Derived.Test.YtapcecjbmcoliaaGreatDoorACauU25
import Derived.Test.YtapcecjbmcoliaaGreatDoorACauU26
namespace Go.Proofs.YtapcecjbmcoliaaGreatDoor

theorem root_more {M j : Nat} : isq (M * (2 ^ j * 2 ^ j)) / 2 ^ j = isq M ∧ (decide (isq (M * (2 ^ j * 2 ^ j)) * isq (M * (2 ^ j * 2 ^ j)) ≠ M * (2 ^ j * 2 ^ j)) || decide (isq (M * (2 ^ j * 2 ^ j)) % 2 ^ j ≠ 0)) = decide (isq M * isq M ≠ M) := by
  have hJ : 0 < 2 ^ j := Nat.pow_pos (by omega)
  generalize 2 ^ j = J at *
  have hsq : ∀ c : Nat, c * c * (J * J) = (c * J) * (c * J) := fun c => by rw [Nat.mul_mul_mul_comm]
  have hJJ : 0 < J * J := Nat.mul_pos hJ hJ
  have hL : ∀ c : Nat, c ≤ isq (M * (J * J)) / J ↔ c ≤ isq M := by
    intro c
    rw [Nat.le_div_iff_mul_le hJ, isq_le, isq_le, ← hsq]
    exact ⟨fun h => Nat.le_of_mul_le_mul_right h hJJ, fun h => Nat.mul_le_mul_right _ h⟩
  have hR : isq (M * (J * J)) / J = isq M := Nat.le_antisymm ((hL _).1 (Nat.le_refl _)) ((hL _).2 (Nat.le_refl _))
  refine ⟨hR, ?_⟩
  rw [← Bool.decide_or]
  apply decide_eq_decide.2
  constructor
  · intro h h2
    have h3 : M * (J * J) = (isq M * J) * (isq M * J) := by rw [← hsq, h2]
    have h4 : isq (M * (J * J)) = isq M * J := by rw [h3, isq_sq]
    rcases h with h | h
    · apply h; rw [h4, h3]
    · apply h; rw [h4]; exact Nat.mul_mod_left _ _
  · intro h
    by_cases h2 : isq (M * (J * J)) % J = 0
    · left
      intro h3
      have hd := Nat.div_add_mod (isq (M * (J * J))) J
      rw [h2, hR, Nat.add_zero, Nat.mul_comm] at hd
      rw [← hd, ← hsq] at h3
      exact h (Nat.eq_of_mul_eq_mul_right hJJ h3)
    · exact Or.inr h2
theorem fla_root {neg : Bool} {M j : Nat} {E mode : Int} (h : 2 ^ 53 ≤ isq M) :
    fla neg (isq (M * (2 ^ j * 2 ^ j))) E (decide (isq (M * (2 ^ j * 2 ^ j)) * isq (M * (2 ^ j * 2 ^ j)) ≠ M * (2 ^ j * 2 ^ j))) mode = fla neg (isq M) (E + j) (decide (isq M * isq M ≠ M)) mode := by
  obtain ⟨h1, h2⟩ := root_more (M := M) (j := j)
  have h3 := fla_tail neg (N := isq (M * (2 ^ j * 2 ^ j))) E (decide (isq (M * (2 ^ j * 2 ^ j)) * isq (M * (2 ^ j * 2 ^ j)) ≠ M * (2 ^ j * 2 ^ j))) mode j (by rw [h1]; exact h)
  rw [h1, h2] at h3
  exact h3.symm
/-- the program's root of a float is the reference's longer one -/
theorem root_long {neg : Bool} {mode : Int} {N A i s k : Nat} {E e : Int} (hN : N = A * 2 ^ i) (hexp : 2 * E + s = e) (hev : (e + i - (k : Int)) % 2 = 0) (h1 : 2 ^ 53 ≤ isq (N * 2 ^ s)) (h2 : 2 ^ 53 ≤ isq (A * 2 ^ k)) :
    fla neg (isq (N * 2 ^ s)) E (decide (isq (N * 2 ^ s) * isq (N * 2 ^ s) ≠ N * 2 ^ s)) mode = fla neg (isq (A * 2 ^ k)) ((e + i - (k : Int)) / 2) (decide (isq (A * 2 ^ k) * isq (A * 2 ^ k) ≠ A * 2 ^ k)) mode := by
  have e1 : N * 2 ^ s = A * 2 ^ (i + s) := by rw [hN, Nat.mul_assoc, ← Nat.pow_add]
  rw [e1] at h1 ⊢
  rcases Nat.le_total k (i + s) with h | h
  · obtain ⟨j, hj⟩ : ∃ j, i + s = k + (j + j) := ⟨(i + s - k) / 2, by omega⟩
    have e2 : A * 2 ^ (i + s) = A * 2 ^ k * (2 ^ j * 2 ^ j) := by rw [hj, Nat.pow_add, ← Nat.mul_assoc, Nat.pow_add 2 j j]
    rw [e2, fla_root h2]
    congr 1
    omega
  · obtain ⟨j, hj⟩ : ∃ j, k = i + s + (j + j) := ⟨(k - (i + s)) / 2, by omega⟩
    have e2 : A * 2 ^ k = A * 2 ^ (i + s) * (2 ^ j * 2 ^ j) := by rw [hj, Nat.pow_add, ← Nat.mul_assoc, Nat.pow_add 2 j j]
    rw [e2, fla_root h1]
    congr 1
    omega
end Go.Proofs.YtapcecjbmcoliaaGreatDoor

namespace Go.Proofs.YtapcecjbmcoliaaGreatDoor

theorem root_big {A k : Nat} (hA : A ≠ 0) (hk : 2 * ((60 : Nat) : Int) + 4 - (blen A : Int) ≤ (k : Nat)) : 2 ^ 61 ≤ isq (A * 2 ^ k) := by
  rw [isq_le, ← Nat.pow_add]
  have h2 : 2 ^ (blen A - 1) ≤ A := by
    have := Nat.log2_self_le hA
    have e : blen A - 1 = Nat.log2 A := by unfold blen; rw [if_neg hA]; omega
    rw [e]; exact this
  have hb : 1 ≤ blen A := by unfold blen; rw [if_neg hA]; omega
  refine Nat.le_trans ?_ (Nat.mul_le_mul_right _ h2)
  rw [← Nat.pow_add]
  exact Nat.pow_le_pow_right (by omega) (by omega)
theorem big_53 {Q : Nat} (h : 2 ^ 61 ≤ Q) : 2 ^ 53 ≤ Q := Nat.le_trans (Nat.pow_le_pow_right (by omega) (by omega)) h
/-- two lengths of a root that suffice give the same float -/
theorem fla_root_any {neg : Bool} {mode : Int} {A k k' : Nat} {e : Int} (hev : (e - (k : Int)) % 2 = 0) (hev' : (e - (k' : Int)) % 2 = 0) (h : 2 ^ 53 ≤ isq (A * 2 ^ k)) (h' : 2 ^ 53 ≤ isq (A * 2 ^ k')) :
    fla neg (isq (A * 2 ^ k)) ((e - (k : Int)) / 2) (decide (isq (A * 2 ^ k) * isq (A * 2 ^ k) ≠ A * 2 ^ k)) mode = fla neg (isq (A * 2 ^ k')) ((e - (k' : Int)) / 2) (decide (isq (A * 2 ^ k') * isq (A * 2 ^ k') ≠ A * 2 ^ k')) mode := by
  have h3 := root_long (neg := neg) (mode := mode) (N := A) (A := A) (i := 0) (s := k) (k := k') (E := (e - (k : Int)) / 2) (e := e) (by omega) (by omega) (by omega) h h'
  rw [h3]
  congr 1
  omega
/-- how far a root is taken -/
def rootK (A : Nat) (e : Int) : Nat := 126 - blen A + ((e - ((126 - blen A : Nat) : Int)) % 2).toNat
theorem rootK_ok {A : Nat} {e : Int} : 2 * ((60 : Nat) : Int) + 4 - (blen A : Int) ≤ (rootK A e : Nat) ∧ (e - (rootK A e : Int)) % 2 = 0 := by
  unfold rootK; omega
/-- the root of a dyad, as a float -/
noncomputable def rootV (d : Dy) (mode : Int) : Nat :=
  match d with
  | some (m, e) =>
    if m < 0 then 9221120237041090560
    else if m = 0 then 0
    else fla false (isq (m.natAbs * 2 ^ rootK m.natAbs e)) ((e - (rootK m.natAbs e : Int)) / 2) (decide (isq (m.natAbs * 2 ^ rootK m.natAbs e) * isq (m.natAbs * 2 ^ rootK m.natAbs e) ≠ m.natAbs * 2 ^ rootK m.natAbs e)) mode
  | none => 9221120237041090560
end Go.Proofs.YtapcecjbmcoliaaGreatDoor

namespace Go.Proofs.YtapcecjbmcoliaaGreatDoor

theorem absF_lt63 (f : Nat) : fabsF f < 9223372036854775808 := by have := fmag_lt f; unfold fabsF; split <;> omega
/-- the greatest absolute value -/
def gmax (l : List Nat) : Nat := l.foldl (fun g f => max g (fabsF f)) 0
theorem gmax_snoc {l : List Nat} {j : Nat} (hj : j < l.length) : gmax (l.take (j + 1)) = max (gmax (l.take j)) (fabsF (l.getD j 0)) := by
  unfold gmax
  rw [List.take_succ_eq_append_getElem hj, List.foldl_append]
  simp [List.getD, hj]
theorem fold_max (l : List Nat) (g : Nat) : (l.foldl (fun g f => max g (fabsF f)) g < 9223372036854775808 ↔ g < 9223372036854775808) ∧ (l.foldl (fun g f => max g (fabsF f)) g < 9218868437227405312 ↔ (g < 9218868437227405312 ∧ ∀ f ∈ l, fabsF f < 9218868437227405312)) := by
  induction l generalizing g with
  | nil => simp
  | cons f l ih =>
    obtain ⟨i1, i2⟩ := ih (max g (fabsF f))
    have h := absF_lt63 f
    rw [List.foldl_cons]
    refine ⟨?_, ?_⟩
    · rw [i1]; omega
    · rw [i2]
      constructor
      · rintro ⟨h1, h2⟩
        refine ⟨by omega, fun x hx => ?_⟩
        rcases List.mem_cons.1 hx with rfl | hx
        · omega
        · exact h2 x hx
      · rintro ⟨h1, h2⟩
        have := h2 f (List.mem_cons_self ..)
        exact ⟨by omega, fun x hx => h2 x (List.mem_cons_of_mem _ hx)⟩
theorem gmax_lt (l : List Nat) : gmax l < 9223372036854775808 := (fold_max l 0).1.2 (by omega)
theorem fin_small {g : Nat} (h : g < 9223372036854775808) : finB g = decide (g < 9218868437227405312) := by
  have h4 : fmag g = g := Nat.mod_eq_of_lt h
  unfold finB
  rw [h4]
theorem fin_abs (f : Nat) : finB f = decide (fabsF f < 9218868437227405312) := by
  have h1 := fmag_lt f
  unfold finB fabsF nanB
  by_cases h : 9218868437227405312 < fmag f
  · rw [decide_eq_true h, if_pos rfl, decide_eq_false (by omega), decide_eq_false (by omega)]
  · rw [decide_eq_false h, if_neg (by decide)]
theorem gmax_fin (l : List Nat) : finB (gmax l) = l.all finB := by
  rw [fin_small (gmax_lt l), Bool.eq_iff_iff, decide_eq_true_iff, List.all_eq_true]
  rw [show gmax l = l.foldl (fun g f => max g (fabsF f)) 0 from rfl, (fold_max l 0).2]
  constructor
  · rintro ⟨_, h⟩ x hx
    rw [fin_abs]
    exact decide_eq_true (h x hx)
  · intro h
    refine ⟨by omega, fun x hx => ?_⟩
    have := h x hx
    rw [fin_abs] at this
    exact of_decide_eq_true this
end Go.Proofs.YtapcecjbmcoliaaGreatDoor

namespace Go.Proofs.YtapcecjbmcoliaaGreatDoor
open Go.RowKit

/-- a root's number: what is under it, and where -/
structure RootOf (N : Nat) (e : Int) (M hi lo r : Nat) (E : Int) (s : Nat) : Prop where
  val : M = N * 2 ^ s
  exp : 2 * E + s = e
  words : hi * 18446744073709551616 + lo = M
  hlo : lo < 18446744073709551616
  hi0 : 1152921504606846976 ≤ hi
  hi1 : hi < 4611686018427387904
  r0 : r * r ≤ M
  r1 : M < (r + 1) * (r + 1)
  r2 : 4611686018427387904 ≤ r
  r3 : r < 9223372036854775808

end Go.Proofs.YtapcecjbmcoliaaGreatDoor

namespace Go.Proofs.YtapcecjbmcoliaaGreatDoor
open Go.RowKit

theorem Dn.num {w : World} {bb nb : Bool} {ao : Option Addr} {n ca : Nat} {f : Int} {d : Dy} (h : Dn w (.agg #[.bool bb, .bool nb, .slice ao n ca, .int .i64 f]) d) : bb = d.isNone ∧ f = dx d ∧ Bn w nb ao n ca (dm d) := h.get

set_option maxRecDepth 100000 in
set_option maxHeartbeats 2000000 in
theorem kitDyad_same (u v : Value) (d : Dy) (w : World) (hu : Dn w u d) (hv : Dn w v d) :
    Calls Tryz.prog 17 #[u, v] w fun e w' => e = .returned (.bool true) ∧ Ext w w' := by
  obtain ⟨ub, un, uo, uk, uc, uf, rfl⟩ := hu.parts
  obtain ⟨vb, vn, vo, vk, vc, vf, rfl⟩ := hv.parts
  obtain ⟨a1, a2, hm⟩ := hu.get
  obtain ⟨b1, b2, hm'⟩ := hv.get
  clear hu hv
  obtain rfl : ub = vb := a1.trans b1.symm
  obtain rfl : uf = vf := a2.trans b2.symm
  clear a1 a2 b1 b2
  go_enter Tryz.func17, Tryz.ntmps17
  go_upto_region 1 with fail
  obtain ⟨W, hW, hB, hbx, hby, hz⟩ := boxes_two_d w ub un uo uk uc uf ub vn vo vk vc uf
  rw [← hW]
  clear hW
  have hm := hm.below hB
  have hm' := hm'.below hB
  have HB := Lib.hid (show Ext w W from hB)
  clear hB
  generalize w.heap.size = B at *
  generalize dm d = m at *
  have k0 := hbx.c0
  have k1 := hbx.c1
  have k2 := hbx.c2
  have k3 := hbx.c3
  have l0 := hby.c0
  have l1 := hby.c1
  have l2 := hby.c2
  have l3 := hby.c3
  go_wp2_with fail
  refine (big_eq _ _ _ _ _ _ _ _ _ _ _ hm hm' rfl).mono ?_
  rintro e w1 ⟨rfl, hw1⟩
  go_wp2
  go_ret
  exact ⟨rfl, HB.out.trans hw1⟩

end Go.Proofs.YtapcecjbmcoliaaGreatDoor

namespace Go.Proofs.YtapcecjbmcoliaaGreatDoor
open Go.RowKit

theorem limb_one (k : Nat) (h : k < 4294967296) (h0 : k ≠ 0) : limbs k = [(k : Int)] := by
  rw [limbs_pos h0, show k / 4294967296 = 0 by omega, limbs_zero, Nat.mod_eq_of_lt h]

/-- a limb in a new block -/
theorem limb_made (w : World) (k : Nat) (h : k < 4294967296) (h0 : k ≠ 0) :
    ∃ W, W = w.alloc (.cells #[.int .u32 (k : Int)] 47) ∧ Ext w W ∧ Bn W false (some ⟨w.heap.size, 0, none⟩) 1 1 (k : Int) := by
  refine ⟨_, rfl, (Below.refl _ w).alloc (Nat.le_refl _) _, by simp, ?_⟩
  have hb : Blk (w.alloc (.cells #[.int .u32 (k : Int)] 47)) w.heap.size [(k : Int)] := heap_alloc_new w _
  rw [Int.natAbs_natCast, limb_one k h h0]
  exact hb.sl (Wf.cons ⟨by omega, by omega⟩ Wf.nil) rfl (by omega) (Nat.le_refl _)

theorem dn_lit {w : World} {nb : Bool} {ao : Option Addr} {n ca : Nat} {m f : Int} (h : Bn w nb ao n ca m) (h0 : Nd (some (m, f))) : Dn w (.agg #[.bool false, .bool nb, .slice ao n ca, .int .i64 f]) (some (m, f)) := ⟨h0, nb, ao, n, ca, rfl, h⟩

end Go.Proofs.YtapcecjbmcoliaaGreatDoor

namespace Go.Proofs.YtapcecjbmcoliaaGreatDoor
open Go.RowKit

/-- a value, the dyad that it reads as, is it normalized -/
structure DEnt where
  v : Value
  d : Dy
  c : Bool

def DEnt.Ok (w : World) (p : DEnt) : Prop := Dg w p.v p.d ∧ (p.c = true → Dn w p.v p.d)

theorem DEnt.Ok.ext {w w' : World} {p : DEnt} (h : p.Ok w) (he : Ext w w') : p.Ok w' := ⟨h.1.ext he, fun e => (h.2 e).ext he⟩
/-- what is at hand -/
structure DSt (W w : World) (L : List DEnt) : Prop where
  ext : Ext W w
  tab : Table w
  bag : ∀ p ∈ L, p.Ok w

theorem DSt.step {W w w' : World} {L : List DEnt} (h : DSt W w L) (he : Ext w w') : DSt W w' L := ⟨h.ext.trans he, h.tab.below he, fun p hp => (h.bag p hp).ext he⟩
theorem DSt.push {W w w' : World} {L : List DEnt} (h : DSt W w L) (he : Ext w w') {p : DEnt} (hp : p.Ok w') : DSt W w' (p :: L) :=
  ⟨h.ext.trans he, h.tab.below he, fun q hq => by
    rcases List.mem_cons.1 hq with rfl | hq
    · exact hp
    · exact (h.bag q hq).ext he⟩
theorem DSt.drew {W w : World} {L : List DEnt} (h : DSt W w L) : DSt W w.drew L := h.step (Below.refl _ _).drew
theorem DSt.alloc {W w : World} {L : List DEnt} (h : DSt W w L) (o : Obj) : DSt W (w.alloc o) L := h.step ((Below.refl _ w).alloc (Nat.le_refl _) o)
theorem DSt.dn {W w : World} {L : List DEnt} {v : Value} {d : Dy} (h : DSt W w L) (h1 : ⟨v, d, true⟩ ∈ L) : Dn w v d := (h.bag _ h1).2 rfl

section
variable {W w : World} {L : List DEnt} {u v : Value} {d d' : Dy} {c c' : Bool}

end
end Go.Proofs.YtapcecjbmcoliaaGreatDoor
