import Derived.Test.YtecaaklbhhjcjaaDoorDivisorU30
import Derived.Test.YtecaaklbhhjcjaaDoorDivisorU31
namespace Go.Proofs.YtecaaklbhhjcjaaDoor
open Go.RowKit

def IsVal (w : World) (v : Value) (a : Nat) : Prop := ∃ ao n ca, v = .slice ao n ca ∧ Sl w ao n ca (limbs a)
theorem IsVal.unique {w : World} {v : Value} {a b : Nat} (h : IsVal w v a) (k : IsVal w v b) : a = b := by
  obtain ⟨ao, n, ca, rfl, h1⟩ := h
  obtain ⟨_, _, _, e, h2⟩ := k
  cases e
  apply limbs_inj
  apply List.ext_getElem (by rw [h1.len, h2.len])
  intro i hi hj
  obtain ⟨g, o, e1, hc⟩ := h1.cells (by omega)
  obtain ⟨g', o', e2, hc'⟩ := h2.cells (by omega)
  rw [e1] at e2
  cases e2
  have := (hc i hi).symm.trans (hc' i hj)
  rw [getD_at hi, getD_at hj] at this
  simpa using this
noncomputable def valAt (w : World) (v : Value) : Nat := by
  classical
  exact if h : ∃ x, IsVal w v x then h.choose else 0
theorem valAt_is {w : World} {v : Value} {a : Nat} (h : IsVal w v a) : valAt w v = a := by
  have hx : ∃ x, IsVal w v x := ⟨a, h⟩
  unfold valAt
  rw [dif_pos hx]
  exact hx.choose_spec.unique h

theorem OwnR.sl {w : World} {B : Nat} {ao : Option Addr} {n ca a : Nat} (h : OwnR w B ao n ca a) : Sl w ao n ca (limbs a) := by
  rcases h with ⟨rfl, rfl⟩ | ⟨g, rfl, -, h⟩
  · rw [limbs_zero]; exact Sl.empty w ao ca
  · exact h.sl
theorem OwnR.mono {w : World} {B C : Nat} {ao : Option Addr} {n ca a : Nat} (h : OwnR w B ao n ca a) (hc : C ≤ B) : OwnR w C ao n ca a :=
  h.imp id (fun ⟨g, e, hg, h⟩ => ⟨g, e, Nat.le_trans hc hg, h⟩)

/-- trimmed limbs of a block -/
theorem Owns.trim {w : World} {g m k ca : Nat} {L : List Int} (h : Blk w g L) (hw : Wf L) (hm : m ≤ L.length) (hk : (limbs (num (L.take m)).toNat).length = k) (hc : L.length = ca) (hb : L.length ≤ 1099511627776) : Owns w g k ca (num (L.take m)).toNat := by
  have e := take_tlen (hw.take m) (L.take m).length (Nat.le_refl _)
  have e2 := tlen_eq (hw.take m)
  rw [← e2, hk, List.take_length, List.take_take] at e
  have hkm : k ≤ m := by
    have := tlen_le (L.take m) (L.take m).length
    rw [← e2, hk, List.length_take] at this
    omega
  rw [Nat.min_eq_left hkm] at e
  exact ⟨L, h, hw, e, by omega, hc, hb⟩

theorem Owns.clone {w : World} {g n a : Nat} (h : Blk w g (limbs a)) (hn : (limbs a).length = n) (hb : n ≤ 1099511627776) : Owns w g n n a :=
  ⟨limbs a, h, Wf.limbs a, List.take_of_length_le (by omega), by omega, by omega, by omega⟩
theorem OwnR.below {w w' : World} {B : Nat} {ao : Option Addr} {n ca a : Nat} (h : OwnR w B ao n ca a) (hb : Below w.heap.size w w') : OwnR w' B ao n ca a :=
  h.imp id (fun ⟨g, e, hg, h⟩ => ⟨g, e, hg, h.below hb⟩)
theorem len_pos {w : World} {ao : Option Addr} {n ca a : Nat} (h : Sl w ao n ca (limbs a)) (hn : 0 < n) : a ≠ 0 := by
  rintro rfl
  have := h.len
  rw [limbs_zero] at this
  simp at this
  omega

theorem gz_nat (a b : Nat) : gz (a : Int) (b : Int) = Nat.gcd a b := by unfold gz; rw [Int.toNat_natCast, Int.toNat_natCast]

/-- what the cofactors make of two numbers in memory -/
theorem lehmer_next {X Y n : Nat} {u0 v0 a b c d u v : Int} {LX LY X' Y' : List Int} {nx : Nat} {e1 e2 : Int} (h : Leh (X : Int) Y u0 v0 a b c d u v) (hb : b ≠ 0) (hX : LX.take nx = limbs X) (hY : LY.take n = limbs Y) (hn : n ≤ nx) (hx : nx ≤ LX.length) (hy : n ≤ LY.length)
    (k1 : Comb LX LY LX a b n X' e1) (k2 : Comb LX LY LY c d n Y' e2) :
    ∃ X1 Y1 : Nat, (num (X'.take n)).toNat = X1 ∧ (num (Y'.take n)).toNat = Y1 ∧ Y1 ≤ X1 ∧ Nat.gcd X1 Y1 = Nat.gcd X Y ∧ Y1 < Y ∧ X1 < 4294967296 ^ n := by
  have hlY : (limbs Y).length = n := by rw [← hY, List.length_take]; omega
  have hYn : (Y : Int) < 4294967296 ^ n := by have := limbs_lt Y; rw [hlY] at this; exact this
  have k1 := (k1.cut hn).cutY (m := n) (Nat.le_refl _)
  have k2 := (k2.cut hn).cutY (m := n) (Nat.le_refl _)
  rw [hX, hY] at k1 k2
  have hf : a * X + b * Y ≤ Y ∧ c * X + d * Y < a * X + b * Y := by
    rcases h.first with f | f
    · exact absurd f.1 hb
    · exact f
  have o1 := h.ord.1
  have d1 := k1.done hlY (by rw [num_limbs, num_limbs]; omega) (by rw [num_limbs, num_limbs]; omega) (by omega)
  have d2 := k2.done hlY (by rw [num_limbs, num_limbs]; omega) (by rw [num_limbs, num_limbs]; omega) (by omega)
  rw [num_limbs, num_limbs] at d1 d2
  have g := h.gcd
  rw [gz_nat] at g
  refine ⟨(num (X'.take n)).toNat, (num (Y'.take n)).toNat, rfl, rfl, ?_, ?_, ?_, ?_⟩
  · rw [d1, d2]; omega
  · rw [d1, d2]; exact g
  · rw [d2]; omega
  · have : ((num (X'.take n)).toNat : Int) < 4294967296 ^ n := by rw [d1]; omega
    have h2 : ((4294967296 ^ n : Nat) : Int) = 4294967296 ^ n := by rw [Int.natCast_pow]; rfl
    rw [← h2] at this
    exact Int.ofNat_lt.1 this
end Go.Proofs.YtecaaklbhhjcjaaDoor
