import Derived.Test.YtapcecjbmcoliaaGreatDoorACauU10
import Derived.Test.YtapcecjbmcoliaaGreatDoorACauU40
import Derived.Test.YtapcecjbmcoliaaGreatDoorACauU18
import Derived.Lib.ItoaNum
import Derived.Test.YtapcecjbmcoliaaGreatDoorACauU11
import Derived.Test.YtapcecjbmcoliaaGreatDoorACauU17
import Derived.Deep.QuietTactic
import Derived.Deep.CutRange
import Derived.Deep.RegionHeld3
import Derived.Deep.RegionWith
namespace Go.Proofs.YtapcecjbmcoliaaGreatDoor
open Go Go.RowKit

theorem half_low {a h : Nat} (hh : h ≤ (limbs a).length) : (num ((limbs a).take h)).toNat = a % 4294967296 ^ h := by
  have h1 := num_append ((limbs a).take h) ((limbs a).drop h)
  rw [List.take_append_drop, num_limbs, List.length_take, Nat.min_eq_left hh, num_drop_div (Wf.limbs a) h hh, num_limbs] at h1
  have e : (4294967296 : Int) ^ h = ((4294967296 ^ h : Nat) : Int) := by rw [Int.natCast_pow]; rfl
  rw [e, ← Int.natCast_ediv, ← Int.natCast_mul] at h1
  have h2 := Nat.div_add_mod a (4294967296 ^ h)
  omega
theorem half_high {a h : Nat} (hh : h < (limbs a).length) : (limbs a).drop h = limbs (a / 4294967296 ^ h) := by
  have h1 := num_drop_div (Wf.limbs a) h (Nat.le_of_lt hh)
  rw [num_limbs] at h1
  have e : (4294967296 : Int) ^ h = ((4294967296 ^ h : Nat) : Int) := by rw [Int.natCast_pow]; rfl
  rw [e, ← Int.natCast_ediv] at h1
  have h2 := limbs_num (zs := (limbs a).drop h) ((Wf.limbs a).drop h) (fun m hm => by
    rw [List.length_drop] at hm
    have e2 : ((limbs a).drop h).getD m 0 = (limbs a).getD (h + m) 0 := by simp [List.getD, List.getElem?_drop]
    rw [e2, limbs_at]
    have h3 : ¬ a < 4294967296 ^ (h + m) := fun h7 => by
      have := (limbs_len_le a (h + m)).2 h7
      omega
    have h4 : a < 4294967296 ^ (h + m + 1) := (limbs_len_le a (h + m + 1)).1 (by omega)
    have h5 : 1 ≤ a / 4294967296 ^ (h + m) := (Nat.le_div_iff_mul_le (Nat.pow_pos (by decide))).2 (by omega)
    have h6 : a / 4294967296 ^ (h + m) < 4294967296 := Nat.div_lt_of_lt_mul (by rw [← Nat.pow_succ]; exact h4)
    omega)
  rw [h1, Int.toNat_natCast] at h2
  exact h2.symm
theorem kar_id (a b H : Nat) : a * b = a % H * (b % H) + H * ((a % H + a / H) * (b % H + b / H) - a % H * (b % H) - a / H * (b / H)) + H * H * (a / H * (b / H)) := by
  have h1 := Nat.div_add_mod a H
  have h2 := Nat.div_add_mod b H
  generalize a % H = x at *
  generalize a / H = y at *
  generalize b % H = z at *
  generalize b / H = u at *
  have e : (x + y) * (z + u) - x * z - y * u = x * u + y * z := by
    have : (x + y) * (z + u) = x * z + x * u + (y * z + y * u) := by rw [Nat.add_mul, Nat.mul_add, Nat.mul_add]
    omega
  rw [e, ← h1, ← h2]
  grind
theorem add_len {x y k : Nat} (hx : (limbs x).length ≤ k) (hy : (limbs y).length ≤ k) : (limbs (x + y)).length ≤ k + 1 := by
  rw [limbs_len_le] at hx hy ⊢
  rw [Nat.pow_succ]
  omega
theorem blk_pre {w : World} {g : Nat} {L R : List Int} (h : Blk w g (L ++ R)) : At w (some ⟨g, 0, none⟩) L := fun _ => ⟨g, 0, rfl, fun j hj => by
  rw [Nat.zero_add, h.cell j (by rw [List.length_append]; omega)]
  congr 2
  unfold List.getD
  rw [List.getElem?_append_left hj]⟩
theorem mul_len {a b k l : Nat} (ha : (limbs a).length ≤ k) (hb : (limbs b).length ≤ l) : (limbs (a * b)).length ≤ k + l := by
  rw [limbs_len_le] at ha hb ⊢
  rw [Nat.pow_add]
  exact Nat.mul_lt_mul'' ha hb
theorem kar_out {N q : Nat} {zs ys : List Int} (hz : Wf zs) (hy : Wf ys) (h1 : zs.length ≤ q) (h2 : q + ys.length ≤ N) :
    ∃ O, splice (zs ++ List.replicate (N - zs.length) 0) q ys = O ∧ O.length = N ∧ Wf O ∧ num O = num zs + 4294967296 ^ q * num ys := by
  obtain ⟨d, rfl⟩ : ∃ d, q = zs.length + d := ⟨q - zs.length, by omega⟩
  refine ⟨zs ++ (List.replicate d 0 ++ (ys ++ List.replicate (N - (zs.length + d) - ys.length) 0)), ?_, ?_, ?_, ?_⟩
  · unfold splice
    rw [List.take_append, List.drop_append, List.take_of_length_le (by omega), List.drop_eq_nil_of_le (by omega), List.nil_append, List.take_replicate, List.drop_replicate, List.append_assoc]
    congr 2
    · congr 1; omega
    · congr 2; omega
  · simp only [List.length_append, List.length_replicate]; omega
  · exact hz.append ((Wf.replicate _).append (hy.append (Wf.replicate _)))
  · rw [num_append, num_append, num_append, num_replicate, num_replicate, List.length_replicate, Int.mul_zero, Int.add_zero, Int.zero_add, Int.pow_add, Int.mul_assoc]
theorem kar_fit {P L : List Int} {o n v T : Nat} (hP : P.length = o) (hw : Wf P) (h : num (P ++ L) + 4294967296 ^ o * (v : Int) = (T : Int)) (hT : T < 4294967296 ^ (o + n)) : num L + v < 4294967296 ^ n := by
  have p0 := num_nonneg hw
  rw [num_append, hP] at h
  have hT' : (T : Int) < 4294967296 ^ o * 4294967296 ^ n := by
    rw [← Int.pow_add]
    have := Int.ofNat_lt.2 hT
    rw [Int.natCast_pow] at this
    exact this
  have : (4294967296 ^ o : Int) * (num L + v) < 4294967296 ^ o * 4294967296 ^ n := by
    rw [Int.mul_add]; omega
  exact Int.lt_of_mul_lt_mul_left this (Int.le_of_lt (Int.pow_pos (by omega)))
theorem kar_sum {O : Int} {X Y v T h : Nat} (hO : O = (X : Int) + 4294967296 ^ (2 * h) * (Y : Int)) (hT : T = X + 4294967296 ^ h * v + 4294967296 ^ h * 4294967296 ^ h * Y) : O + 4294967296 ^ h * (v : Int) = (T : Int) := by
  rw [hO, hT, Nat.two_mul, Int.pow_add, Int.natCast_add, Int.natCast_add, Int.natCast_mul, Int.natCast_mul, Int.natCast_mul, Int.natCast_pow]
  show (X : Int) + 4294967296 ^ h * 4294967296 ^ h * (Y : Int) + 4294967296 ^ h * (v : Int) = (X : Int) + 4294967296 ^ h * (v : Int) + 4294967296 ^ h * 4294967296 ^ h * (Y : Int)
  omega
theorem kar_top {a b n m : Nat} (ha : (limbs a).length = n) (hb : (limbs b).length = m) : a * b < 4294967296 ^ (n + m) := by
  rw [← limbs_len_le, ← ha, ← hb]
  exact mul_len (Nat.le_refl _) (Nat.le_refl _)
theorem kar_mid {P v T h n : Nat} (h1 : P + 4294967296 ^ h * v = T) (hT : T < 4294967296 ^ (h + n)) : (limbs v).length ≤ n := by
  rw [limbs_len_le]
  rw [Nat.pow_add] at hT
  exact Nat.lt_of_mul_lt_mul_left (a := 4294967296 ^ h) (by omega)
theorem kar_low {x y z u : Nat} : x * z + y * u ≤ (x + y) * (z + u) := by
  have : (x + y) * (z + u) = x * z + x * u + (y * z + y * u) := by rw [Nat.add_mul, Nat.mul_add, Nat.mul_add]
  omega
end Go.Proofs.YtapcecjbmcoliaaGreatDoor

namespace Go.Proofs.YtapcecjbmcoliaaGreatDoor
open Go Go.RowKit

/-- block g holds the limbs L, and T behind them -/
def UB (w : World) (g : Nat) (L : List Int) (T : List Value) : Prop := w.heap[g]? = some (.cells ((L.map (Value.int .u32)) ++ T).toArray 47 (0, 0))
theorem UB.lt {w : World} {g : Nat} {L : List Int} {T : List Value} (h : UB w g L T) : g < w.heap.size := (Array.getElem?_eq_some_iff.1 h).1
theorem UB.cell {w : World} {g : Nat} {L : List Int} {T : List Value} (h : UB w g L T) (j : Nat) (hj : j < L.length) : w.cell? ⟨g, j, none⟩ = some (.int .u32 (L.getD j 0)) := by
  rw [cell_of_row w g j _ _ _ h]
  simp [List.getElem?_append_left, hj, List.getD]
theorem UB.frozen {w : World} {g : Nat} {L : List Int} {T : List Value} (h : UB w g L T) (j : Nat) : w.frozen? ⟨g, j, none⟩ = false := by
  unfold UB at h; simp [World.frozen?, h]
theorem UB.kept {w w' : World} {g : Nat} {L : List Int} {T : List Value} (h : UB w g L T) {B : Nat} (hb : Below B w w') (hg : g < B) : UB w' g L T := by
  unfold UB; rw [hb.block g hg]; exact h
theorem UB.below {w w' : World} {g : Nat} {L : List Int} {T : List Value} (h : UB w g L T) (hb : Below w.heap.size w w') : UB w' g L T := h.kept hb h.lt
theorem UB.only {w w' : World} {g k : Nat} {L : List Int} {T : List Value} (h : UB w g L T) (hb : Only k w w') (hg : g ≠ k) : UB w' g L T := by
  unfold UB; rw [hb.block g hg]; exact h
theorem UB.drewN {w : World} {g : Nat} {L : List Int} {T : List Value} (h : UB w g L T) (n : Nat) : UB (w.drewN n) g L T := h
theorem UB.set {w : World} {g : Nat} {L : List Int} {T : List Value} (h : UB w g L T) (i : Nat) (x : Int) (hi : i < L.length) : UB (w.setCell ⟨g, i, none⟩ (.int .u32 x)) g (L.set i x) T := by
  unfold UB at h ⊢
  have e : ((L.map (Value.int .u32)) ++ T).set i (.int .u32 x) = (L.set i x).map (Value.int .u32) ++ T := by
    rw [List.set_append_left _ _ (by simpa using hi), List.map_set]
  rw [← e]
  simp [World.setCell, Array.getElem?_modify, h]
theorem UB.at {w : World} {g : Nat} {L : List Int} {T : List Value} (h : UB w g L T) : At w (some ⟨g, 0, none⟩) L := fun _ => ⟨g, 0, rfl, fun j hj => by rw [Nat.zero_add]; exact h.cell j hj⟩
theorem UB.sl {w : World} {g n cap : Nat} {L : List Int} {T : List Value} (h : UB w g L T) (hw : Wf L) (hn : L.length = n) (hl : n ≤ 1099511627776) (hc : n ≤ cap) : Sl w (some ⟨g, 0, none⟩) n cap L :=
  ⟨hn, hc, hl, hw, h.at⟩
theorem Own.ub {w : World} {B : Nat} {v : Value} {L : List Int} (h : Own w B v L) (h0 : L ≠ []) : ∃ g cap T, v = .slice (some ⟨g, 0, none⟩) L.length cap ∧ B ≤ g ∧ UB w g L T ∧ L.length ≤ cap := by
  obtain ⟨h1, h2⟩ := h
  rcases h2 with ⟨hv, h3⟩ | ⟨g, cap, cur, hv, hb, hg, hc, hm, hs, ht⟩
  · exact absurd (List.eq_nil_of_length_eq_zero h3) h0
  · refine ⟨g, cap, cur.toList.drop (L.length * 1), hv, hb, ?_, hc⟩
    unfold UB
    rw [← ht, List.take_append_drop, hg]

end Go.Proofs.YtapcecjbmcoliaaGreatDoor

namespace Go.Proofs.YtapcecjbmcoliaaGreatDoor
open Go.Lib
/-- k limbs of L M + g are made in place; c is what is carried -/
structure MulAdd (L : List Int) (M g : Int) (k : Nat) (L' : List Int) (c : Int) : Prop where
  len : L'.length = L.length
  wf : Wf L'
  c0 : 0 ≤ c
  c1 : c ≤ M
  eq : num (L'.take k) + 4294967296 ^ k * c = num (L.take k) * M + g
  rest : L'.drop k = L.drop k
theorem MulAdd.start {L : List Int} {M g : Int} (h : Wf L) (g0 : 0 ≤ g) (g1 : g ≤ M) : MulAdd L M g 0 L g := ⟨rfl, h, g0, g1, by simp [num], rfl⟩
theorem MulAdd.at {L L' : List Int} {M g c : Int} {k : Nat} (h : MulAdd L M g k L' c) : L'.getD k 0 = L.getD k 0 := by
  have h1 : (L'.drop k).getD 0 0 = (L.drop k).getD 0 0 := by rw [h.rest]
  simpa [List.getD, List.getElem?_drop] using h1
theorem MulAdd.step {L L' : List Int} {M g c x : Int} {k : Nat} (h : MulAdd L M g k L' c) (hM : 0 ≤ M) (hw : Wf L) (hk : k < L.length) (hx : L.getD k 0 = x) : MulAdd L M g (k + 1) (L'.set k ((c + x * M) % 4294967296)) ((c + x * M) / 4294967296) := by
  have hxr := hw.getD k
  rw [hx] at hxr
  obtain ⟨x0, x1⟩ := hxr
  have hs : 0 ≤ c + x * M := Int.add_nonneg h.c0 (Int.mul_nonneg x0 hM)
  have hs1 : c + x * M ≤ 4294967295 * M + M := Int.add_comm c _ ▸ Int.add_le_add (Int.mul_le_mul_of_nonneg_right (by omega) hM) h.c1
  have hkl : k < L'.length := by rw [h.len]; exact hk
  refine ⟨by rw [List.length_set]; exact h.len, h.wf.set _ ⟨Int.emod_nonneg _ (by omega), Int.emod_lt_of_pos _ (by omega)⟩, Int.ediv_nonneg hs (by omega), by omega, ?_, ?_⟩
  · rw [num_take_set _ _ _ hkl, num_take_next, hx, Int.pow_succ]
    have e := Int.mul_ediv_add_emod (c + x * M) 4294967296
    have h1 := h.eq
    generalize (c + x * M) / 4294967296 = q at *
    generalize (c + x * M) % 4294967296 = r at *
    rw [Int.mul_assoc, Int.add_assoc, ← Int.mul_add, show r + 4294967296 * q = c + x * M by omega, Int.mul_add, Int.add_mul, Int.mul_assoc]
    omega
  · rw [List.drop_set_of_lt (by omega), ← List.drop_drop, h.rest, List.drop_drop]
theorem MulAdd.all {L L' : List Int} {M g c : Int} (h : MulAdd L M g L.length L' c) : num L' + 4294967296 ^ L.length * c = num L * M + g := by
  have h1 := h.eq
  rw [List.take_of_length_le (by rw [h.len]; exact Nat.le_refl _), List.take_of_length_le (Nat.le_refl _)] at h1
  exact h1
end Go.Proofs.YtapcecjbmcoliaaGreatDoor

namespace Go.Proofs.YtapcecjbmcoliaaGreatDoor
open Go Go.RowKit

/-- but for block g, all that there was is as it was -/
structure But (g : Nat) (w w' : World) : Prop where
  os : w'.os = w.os
  tape : w'.tape = w.tape
  output : w'.output = w.output
  size : w.heap.size ≤ w'.heap.size
  block : ∀ k, k < w.heap.size → k ≠ g → w'.heap[k]? = w.heap[k]?
theorem But.refl (g : Nat) (w : World) : But g w w := ⟨rfl, rfl, rfl, Nat.le_refl _, fun _ _ _ => rfl⟩
theorem But.trans {g : Nat} {a b c : World} (h : But g a b) (k : But g b c) : But g a c :=
  ⟨k.os.trans h.os, k.tape.trans h.tape, k.output.trans h.output, Nat.le_trans h.size k.size, fun i hi hne => (k.block i (by have := h.size; omega) hne).trans (h.block i hi hne)⟩
theorem But.drew {g : Nat} {a w : World} (h : But g a w) : But g a w.drew := ⟨h.os, h.tape, h.output, h.size, h.block⟩
theorem But.below {g B : Nat} {w w' : World} (h : But g w w') (hB : B ≤ w.heap.size) (hg : B ≤ g) : Below B w w' := ⟨h.os, h.tape, h.output, h.size, fun k hk => h.block k (by omega) (by omega)⟩
/-- the powers of 10^9: each the square of the one before -/
structure LP (w : World) (po : Option Addr) (K pc : Nat) : Prop where
  cap : K ≤ pc
  cells : 0 < K → ∃ b off, po = some ⟨b, off, none⟩ ∧ ∀ j, j < K → ∃ ao n ca, w.cell? ⟨b, off + j, none⟩ = some (.slice ao n ca) ∧ Sl w ao n ca (limbs (1000000000 ^ 2 ^ j)) ∧ n ≤ 100000000
end Go.Proofs.YtapcecjbmcoliaaGreatDoor
