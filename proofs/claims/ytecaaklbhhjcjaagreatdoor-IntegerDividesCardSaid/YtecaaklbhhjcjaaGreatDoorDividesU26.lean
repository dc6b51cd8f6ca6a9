import Derived.Test.YtecaaklbhhjcjaaGreatDoorDividesU25
import Derived.Test.YtecaaklbhhjcjaaGreatDoorDividesU21
import Derived.Test.YtecaaklbhhjcjaaGreatDoorDividesU13
namespace Go.Proofs.YtecaaklbhhjcjaaGreatDoor
open Go.RowKit

theorem Own.of_blk {w : World} {B g : Nat} {L : List Int} (h : Blk w g L) (hB : B ≤ g) (hn : L.length ≤ 1099511627776) : Own w B (.slice (some ⟨g, 0, none⟩) L.length L.length) L := by
  refine ⟨by simp, Or.inr ⟨g, L.length, _, rfl, hB, h, Nat.le_refl _, by unfold maxLen; omega, by simp, ?_⟩⟩
  simp only [Nat.mul_one]
  exact List.take_of_length_le (by simp)

theorem or_low64 {z q : Int} {k : Nat} (hk : k < 32) (z0 : 0 ≤ z) (z1 : z < 2 ^ k) (q0 : 0 ≤ q) (q1 : q < 4294967296) : bits BinOp.or IntKind.u64 z (q * 2 ^ k) = z + q * 2 ^ k ∧ 0 ≤ z + q * 2 ^ k ∧ z + q * 2 ^ k < 4294967296 * 2 ^ k := by
  obtain ⟨a, rfl⟩ := Int.eq_ofNat_of_zero_le z0
  obtain ⟨b, rfl⟩ := Int.eq_ofNat_of_zero_le q0
  have hp := two_pos k
  have h1 : a < 2 ^ k := by
    have : ((a : Nat) : Int) < ((2 ^ k : Nat) : Int) := by rw [Int.natCast_pow]; exact z1
    exact Int.ofNat_lt.1 this
  have h3 : 2 ^ k < 2 ^ 32 := Nat.pow_lt_pow_right (by omega) hk
  have h2 : b * 2 ^ k < 18446744073709551616 := by
    have : b * 2 ^ k < 4294967296 * 2 ^ 32 := Nat.mul_lt_mul'' (by omega) h3
    exact this
  have e := bits_or_u64_nat a (b * 2 ^ k) (by omega) h2
  have e2 : a ||| b * 2 ^ k = a + b * 2 ^ k := by
    have := Nat.two_pow_add_eq_or_of_lt h1 b
    rw [Nat.or_comm, Nat.mul_comm b, ← this]; omega
  rw [e2, Int.natCast_add, Int.natCast_mul, Int.natCast_pow] at e
  refine ⟨e, ?_, ?_⟩
  · have := Int.mul_nonneg q0 (Int.le_of_lt hp); omega
  · have := Int.mul_le_mul_of_nonneg_right (show (b : Int) + 1 ≤ 4294967296 by omega) (Int.le_of_lt hp)
    rw [Int.add_mul, Int.one_mul] at this
    omega

theorem wrap_shl64 {q : Int} {k : Nat} (hk : k < 32) (q0 : 0 ≤ q) (q1 : q < 4294967296) : IntKind.u64.wrap (q * 2 ^ k) = q * 2 ^ k := by
  have hp := two_pos k
  have h0 := Int.mul_nonneg q0 (Int.le_of_lt hp)
  have h1 := Int.mul_lt_mul_of_pos_right q1 hp
  have h2 : (4294967296 : Int) * 2 ^ k ≤ 18446744073709551616 := by
    have h3 := Int.pow_lt_pow_of_lt (show (1 : Int) < 2 by omega) hk
    have h4 : (2 : Int) ^ 32 = 4294967296 := rfl
    omega
  rw [IntKind.wrap_u64]
  exact Int.emod_eq_of_lt h0 (by omega)

/-- q limbs are shifted, c goes over -/
def ShlAt (zs : List Int) (k q : Nat) (L : List Int) (c : Int) : Prop := L.length = q ∧ Wf L ∧ 0 ≤ c ∧ c < 2 ^ k ∧ num L + 4294967296 ^ q * c = num (zs.take q) * 2 ^ k

theorem ShlAt.step {zs L : List Int} {k q : Nat} {c t : Int} (h : ShlAt zs k q L c) (hq : q < zs.length) (ht : t = c + zs.getD q 0 * 2 ^ k) (t0 : 0 ≤ t) (t1 : t < 4294967296 * 2 ^ k) : ShlAt zs k (q + 1) (L ++ [t % 4294967296]) (t / 4294967296) := by
  obtain ⟨h1, h2, h3, h4, h5⟩ := h
  refine ⟨by simp [h1], h2.append (Wf.cons ⟨by omega, by omega⟩ Wf.nil), by omega, by omega, ?_⟩
  rw [num_append, h1, num_take_succ zs q hq, Int.pow_succ]
  simp only [num]
  have e : t % 4294967296 + 4294967296 * (t / 4294967296) = t := by omega
  have e2 : (4294967296 : Int) ^ q * (t % 4294967296) + 4294967296 ^ q * 4294967296 * (t / 4294967296) = 4294967296 ^ q * t := by
    rw [Int.mul_assoc, ← Int.mul_add, e]
  have e3 : (4294967296 : Int) ^ q * t = 4294967296 ^ q * c + 4294967296 ^ q * zs.getD q 0 * 2 ^ k := by rw [ht, Int.mul_add, ← Int.mul_assoc]
  rw [Int.add_mul]
  simp only [Int.mul_zero, Int.add_zero]
  omega

end Go.Proofs.YtecaaklbhhjcjaaGreatDoor

namespace Go.Proofs.YtecaaklbhhjcjaaGreatDoor
open Go Go.RowKit

/-- block g holds the limbs L, and T behind them -/
def UB (w : World) (g : Nat) (L : List Int) (T : List Value) : Prop := w.heap[g]? = some (.cells ((L.map (Value.int .u32)) ++ T).toArray 63 (0, 0))
theorem UB.lt {w : World} {g : Nat} {L : List Int} {T : List Value} (h : UB w g L T) : g < w.heap.size := (Array.getElem?_eq_some_iff.1 h).1
theorem UB.cell {w : World} {g : Nat} {L : List Int} {T : List Value} (h : UB w g L T) (j : Nat) (hj : j < L.length) : w.cell? ⟨g, j, none⟩ = some (.int .u32 (L.getD j 0)) := by
  rw [cell_of_row w g j _ _ _ h]
  simp [List.getElem?_append_left, hj, List.getD]
theorem UB.frozen {w : World} {g : Nat} {L : List Int} {T : List Value} (h : UB w g L T) (j : Nat) : w.frozen? ⟨g, j, none⟩ = false := by
  unfold UB at h; simp [World.frozen?, h]
theorem UB.kept {w w' : World} {g : Nat} {L : List Int} {T : List Value} (h : UB w g L T) {B : Nat} (hb : Below B w w') (hg : g < B) : UB w' g L T := by
  unfold UB; rw [hb.block g hg]; exact h
theorem UB.below {w w' : World} {g : Nat} {L : List Int} {T : List Value} (h : UB w g L T) (hb : Below w.heap.size w w') : UB w' g L T := h.kept hb h.lt
theorem UB.only {w w' : World} {g k : Nat} {L : List Int} {T : List Value} (h : UB w g L T) (hb : Only k w w') (hg : g ≠ k) : UB w' g L T := by
  unfold UB; rw [hb.block g hg]; exact h
theorem UB.drewN {w : World} {g : Nat} {L : List Int} {T : List Value} (h : UB w g L T) (n : Nat) : UB (w.drewN n) g L T := h
theorem UB.set {w : World} {g : Nat} {L : List Int} {T : List Value} (h : UB w g L T) (i : Nat) (x : Int) (hi : i < L.length) : UB (w.setCell ⟨g, i, none⟩ (.int .u32 x)) g (L.set i x) T := by
  unfold UB at h ⊢
  have e : ((L.map (Value.int .u32)) ++ T).set i (.int .u32 x) = (L.set i x).map (Value.int .u32) ++ T := by
    rw [List.set_append_left _ _ (by simpa using hi), List.map_set]
  rw [← e]
  simp [World.setCell, Array.getElem?_modify, h]
theorem UB.at {w : World} {g : Nat} {L : List Int} {T : List Value} (h : UB w g L T) : At w (some ⟨g, 0, none⟩) L := fun _ => ⟨g, 0, rfl, fun j hj => by rw [Nat.zero_add]; exact h.cell j hj⟩
theorem UB.sl {w : World} {g n cap : Nat} {L : List Int} {T : List Value} (h : UB w g L T) (hw : Wf L) (hn : L.length = n) (hl : n ≤ 1099511627776) (hc : n ≤ cap) : Sl w (some ⟨g, 0, none⟩) n cap L :=
  ⟨hn, hc, hl, hw, h.at⟩
theorem Own.ub {w : World} {B : Nat} {v : Value} {L : List Int} (h : Own w B v L) (h0 : L ≠ []) : ∃ g cap T, v = .slice (some ⟨g, 0, none⟩) L.length cap ∧ B ≤ g ∧ UB w g L T ∧ L.length ≤ cap := by
  obtain ⟨h1, h2⟩ := h
  rcases h2 with ⟨hv, h3⟩ | ⟨g, cap, cur, hv, hb, hg, hc, hm, hs, ht⟩
  · exact absurd (List.eq_nil_of_length_eq_zero h3) h0
  · refine ⟨g, cap, cur.toList.drop (L.length * 1), hv, hb, ?_, hc⟩
    unfold UB
    rw [← ht, List.take_append_drop, hg]

theorem getD_window (U : List Int) (t m i : Nat) (h : i < m) : ((U.drop t).take m).getD i 0 = U.getD (t + i) 0 := by
  rw [take_getD _ _ _ h]
  simp [List.getD, List.getElem?_drop]

/-- k limbs of V - q ds are made; c is what is carried and borrowed -/
def Minus (V ds : List Int) (q : Int) (k : Nat) (L : List Int) (c : Int) : Prop := L.length = k ∧ Wf L ∧ num L = num (V.take k) - q * num (ds.take k) + 4294967296 ^ k * c
theorem Minus.start (V ds : List Int) (q : Int) : Minus V ds q 0 [] 0 := ⟨rfl, Wf.nil, by simp [num]⟩
theorem Minus.step {V ds L : List Int} {q c c' z : Int} {k : Nat} (h : Minus V ds q k L c) (hz : 0 ≤ z ∧ z < 4294967296) (ht : z = V.getD k 0 - q * ds.getD k 0 - c + 4294967296 * c') : Minus V ds q (k + 1) (L ++ [z]) c' := by
  obtain ⟨h1, h2, h3⟩ := h
  refine ⟨by simp [h1], h2.append (Wf.cons hz Wf.nil), ?_⟩
  rw [num_append, h1, num_take_next V k, num_take_next ds k, Int.pow_succ]
  simp only [num, Int.mul_zero, Int.add_zero]
  have e3 : (4294967296 : Int) ^ k * z = 4294967296 ^ k * V.getD k 0 - 4294967296 ^ k * (q * ds.getD k 0) - 4294967296 ^ k * c + 4294967296 ^ k * 4294967296 * c' := by
    rw [ht, Int.mul_add, Int.mul_sub, Int.mul_sub, Int.mul_assoc]
  have e4 : q * (num (ds.take k) + 4294967296 ^ k * ds.getD k 0) = q * num (ds.take k) + 4294967296 ^ k * (q * ds.getD k 0) := by
    rw [Int.mul_add, Int.mul_left_comm]
  rw [e4]
  omega
/-- one step: the product with what is carried, and the borrow -/
theorem minus_word (x y q c b : Int) (x0 : 0 ≤ x) (x1 : x < 4294967296) (p0 : 0 ≤ q * y) (p1 : q * y ≤ 18446744065119617025) (c0 : 0 ≤ c) (c1 : c ≤ 4294967295) (b0 : 0 ≤ b) (b1 : b ≤ 1) :
    0 ≤ (c + q * y) / 4294967296 ∧ (c + q * y) / 4294967296 ≤ 4294967295 ∧
    0 ≤ IntKind.u64.wrap (IntKind.u64.wrap (x - b) - (c + q * y) % 4294967296) / 9223372036854775808 ∧ IntKind.u64.wrap (IntKind.u64.wrap (x - b) - (c + q * y) % 4294967296) / 9223372036854775808 ≤ 1 ∧
    IntKind.u64.wrap (IntKind.u64.wrap (x - b) - (c + q * y) % 4294967296) % 4294967296 =
      x - q * y - (c + b) + 4294967296 * ((c + q * y) / 4294967296 + IntKind.u64.wrap (IntKind.u64.wrap (x - b) - (c + q * y) % 4294967296) / 9223372036854775808) := by
  rw [IntKind.wrap_u64, IntKind.wrap_u64]
  generalize q * y = p at *
  omega
theorem minus_last (x c b : Int) (x0 : 0 ≤ x) (x1 : x < 4294967296) (c0 : 0 ≤ c) (c1 : c ≤ 4294967295) (b0 : 0 ≤ b) (b1 : b ≤ 1) :
    0 ≤ IntKind.u64.wrap (IntKind.u64.wrap (x - b) - c % 4294967296) / 9223372036854775808 ∧ IntKind.u64.wrap (IntKind.u64.wrap (x - b) - c % 4294967296) / 9223372036854775808 ≤ 1 ∧
    IntKind.u64.wrap (IntKind.u64.wrap (x - b) - c % 4294967296) % 4294967296 =
      x - (c + b) + 4294967296 * (IntKind.u64.wrap (IntKind.u64.wrap (x - b) - c % 4294967296) / 9223372036854775808) := by
  rw [IntKind.wrap_u64, IntKind.wrap_u64]
  omega
theorem blk_grow {w : World} {g k m : Nat} {L : List Int} {z : Int} (h : Blk w g (L ++ List.replicate (m + 1) 0)) (hk : L.length = k) : Blk (w.setCell ⟨g, k, none⟩ (.int .u32 z)) g ((L ++ [z]) ++ List.replicate m 0) := by
  have := h.set k z
  subst hk
  rw [List.set_append_right _ _ (Nat.le_refl _), Nat.sub_self, List.replicate_succ, List.set_cons_zero] at this
  rw [List.append_assoc]
  exact this
end Go.Proofs.YtecaaklbhhjcjaaGreatDoor
