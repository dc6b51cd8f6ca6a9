import Derived.Test.YtecaaklbhhjcjaaGreatDoorDividesU20
import Derived.Test.YtecaaklbhhjcjaaGreatDoorDividesU5
import Derived.Test.YtecaaklbhhjcjaaGreatDoorDividesU4
import Derived.Test.YtecaaklbhhjcjaaGreatDoorDividesU2
import Derived.Laws.AppendOwn
import Derived.OwnWalk
namespace Go.Proofs.YtecaaklbhhjcjaaGreatDoor
open Go.RowKit

set_option maxRecDepth 100000 in
set_option maxHeartbeats 4000000 in
theorem gcd_any (nb mb : Bool) (ao : Option Addr) (n ca : Nat) (bo : Option Addr) (m cb : Nat) (x y : Int) (w : World) (ha : Bg w nb ao n ca x) (hb : Bg w mb bo m cb y) (hn : n ≤ 100000000) (hm : m ≤ 100000000) :
    Calls Tryz.prog 11 #[.agg #[.bool nb, .slice ao n ca], .agg #[.bool mb, .slice bo m cb]] w fun e w' => ∃ nr ro k cr, e = .returned (.agg #[.bool nr, .slice ro k cr]) ∧ Bn w' nr ro k cr ((Nat.gcd x.natAbs y.natAbs : Nat) : Int) ∧ Below w.heap.size w w' := by
  obtain ⟨⟨zs, hs, hx⟩, hsm⟩ := ha
  obtain ⟨⟨ys, hu, hy⟩, hum⟩ := hb
  have ex : (num zs).toNat = x.natAbs := by rw [hx, sgd_natAbs hs.wf]
  have ey : (num ys).toNat = y.natAbs := by rw [hy, sgd_natAbs hu.wf]
  rw [← ex, ← ey]
  clear hx hy ex ey
  go_enter Tryz.func11, Tryz.ntmps11
  go_wp2_with fail
  obtain ⟨W, hW, hB, hbx, hby, hrx, hz⟩ := boxes2 w nb ao n ca mb bo m cb
  rw [← hW]
  clear hW
  have hs0 := hs.below hB
  have hu0 := hu.below hB
  generalize hBe : w.heap.size = B at *
  have HBe := Lib.hid hBe; clear hBe
  have hBelow := Lib.hid hB
  clear hs hu hB
  obtain ⟨k1, hk1, hs1, ht1⟩ := trim_at _ _ _ _ _ hs0
  obtain ⟨k2, hk2, hu1, ht2⟩ := trim_at _ _ _ _ _ hu0
  obtain ⟨a, hxa⟩ : ∃ a, (num zs).toNat = a := ⟨_, rfl⟩
  obtain ⟨b, hyb⟩ : ∃ b, (num ys).toNat = b := ⟨_, rfl⟩
  rw [hxa] at hs1
  rw [hyb] at hu1
  have GAB := Lib.hid (show (((num zs).toNat.gcd (num ys).toNat : Nat) : Int) = ((Nat.gcd a b : Nat) : Int) by rw [hxa, hyb])
  clear hxa hyb
  have HT1 := Lib.hid ht1; clear ht1
  have HT2 := Lib.hid ht2; clear ht2
  have k0 := hbx.c0
  have k1' := hbx.c1
  have l0 := hby.c0
  have l1' := hby.c1
  go_region_held3 (fun w' => w'.cell? ⟨B, 0, none⟩ = some (.bool nb) ∧ w'.cell? ⟨B, 1, none⟩ = some (.slice ao n ca) ∧ w'.cell? ⟨B + 1, 0, none⟩ = some (.bool mb) ∧ w'.cell? ⟨B + 1, 1, none⟩ = some (.slice bo m cb))
    (first | exact ⟨k0, k1', l0, l1'⟩ | exact ⟨x2.c0, x2.c1, v2.c0, v2.c1⟩ | exact ⟨x3.c0, x3.c1, v3.c0, v3.c1⟩ | (refine ⟨?_, ?_, ?_, ?_⟩ <;> go_simp))
    (first
      | (go_at_call 58; first | ((with_reducible refine (HT1.out _ (by exact hs0.drew)).mono ?_); rintro e w1 ⟨rfl, rfl⟩) | ((with_reducible refine (HT2.out _ (by exact hu0.drew)).mono ?_); rintro e w1 ⟨rfl, rfl⟩))
      | (go_at_call 64; refine (common_any _ _ _ _ _ _ _ _ _ (by exact hs1.drew) (by exact hu1.drew) (by omega) (by omega)).mono ?_; rintro e w2 ⟨ro, k, cr, rfl, hp, hw2⟩; have x2 := hbx.drew.below hw2; have v2 := hby.drew.below hw2; have y2 := hrx.drew.below hw2)
      | (go_at_call 62; refine (signed_any _ _ _ _ _ _ (by exact hp)).mono ?_; rintro e w3 ⟨ro', cr', rfl, hs3, hw3⟩; have x3 := x2.below hw3; have v3 := v2.below hw3; have y3 := y2.below hw3; have q0 := y3.c0; have q1 := y3.c1; have q2 := y3.f 0; have q3 := y3.f 1; have e0 := x3.c0; have e1 := x3.c1; have e2 := v3.c0; have e3 := v3.c1))
  have z3 := y3.stored (false && decide (0 < k)) ro' k cr'
  have z0 := z3.c0
  have z1 := z3.c1
  simp only [Bool.false_and] at z0 z1
  go_wp2
  refine bodyPost_ret (v := .agg #[.bool (false && decide (0 < k)), .slice ro' k cr']) (by simp [results, Tryz.results11, go_sem, z0, z1]) rfl ⟨_, ro', k, cr', rfl, ?_, ?_⟩
  · exact bn_of (nb := false) (hs3.only_box y3 (only_set2 _ _ _ _)) rfl (by rw [GAB.out]; rfl)
  · obtain ⟨b1, l1⟩ := bnext hBelow.out (by omega) (Below.refl _ W).drew
    obtain ⟨b2, l2⟩ := bnext b1 l1 hw2
    obtain ⟨b3, l3⟩ := bnext b2 l2 hw3
    rw [HBe.out]
    exact b3.trans ((only_set2 _ _ _ _).below (by omega))
end Go.Proofs.YtecaaklbhhjcjaaGreatDoor

namespace Go.Proofs.YtecaaklbhhjcjaaGreatDoor
open Go.RowKit

theorem num_take_next (zs : List Int) (k : Nat) : num (zs.take (k + 1)) = num (zs.take k) + 4294967296 ^ k * zs.getD k 0 := by
  by_cases h : k < zs.length
  · exact num_take_succ zs k h
  · rw [List.take_of_length_le (by omega), List.take_of_length_le (by omega), List.getD, List.getElem?_eq_none (by omega)]
    simp

/-- k limbs of a sum are made, c goes over -/
def SumAt (xs ys : List Int) (k : Nat) (L : List Int) (c : Int) : Prop := L.length = k ∧ Wf L ∧ 0 ≤ c ∧ c ≤ 1 ∧ num L + 4294967296 ^ k * c = num (xs.take k) + num (ys.take k)

theorem SumAt.start (xs ys : List Int) : SumAt xs ys 0 [] 0 := ⟨rfl, Wf.nil, by omega, by omega, by simp [num]⟩

theorem SumAt.step {xs ys L : List Int} {k : Nat} {c t : Int} (h : SumAt xs ys k L c) (hx : Wf xs) (hy : Wf ys) (ht : t = c + xs.getD k 0 + ys.getD k 0) : SumAt xs ys (k + 1) (L ++ [t % 4294967296]) (t / 4294967296) := by
  obtain ⟨h1, h2, h3, h4, h5⟩ := h
  have x1 := hx.getD k
  have y1 := hy.getD k
  refine ⟨by simp [h1], h2.append (Wf.cons ⟨by omega, by omega⟩ Wf.nil), by omega, by omega, ?_⟩
  rw [num_append, h1, num_take_next xs k, num_take_next ys k, Int.pow_succ]
  simp only [num]
  have e : t % 4294967296 + 4294967296 * (t / 4294967296) = t := by omega
  have e2 : (4294967296 : Int) ^ k * (t % 4294967296) + 4294967296 ^ k * 4294967296 * (t / 4294967296) = 4294967296 ^ k * t := by
    rw [Int.mul_assoc, ← Int.mul_add, e]
  have e3 : (4294967296 : Int) ^ k * t = 4294967296 ^ k * c + 4294967296 ^ k * xs.getD k 0 + 4294967296 ^ k * ys.getD k 0 := by rw [ht, Int.mul_add, Int.mul_add]
  simp only [Int.mul_zero, Int.add_zero]
  omega

theorem SumAt.done {xs ys L : List Int} {k : Nat} {c : Int} (h : SumAt xs ys k L c) (hx : xs.length ≤ k) (hy : ys.length ≤ k) : Wf (L ++ [c]) ∧ (L ++ [c]).length = k + 1 ∧ num (L ++ [c]) = num xs + num ys := by
  obtain ⟨h1, h2, h3, h4, h5⟩ := h
  refine ⟨h2.append (Wf.cons ⟨by omega, by omega⟩ Wf.nil), by simp [h1], ?_⟩
  rw [List.take_of_length_le hx, List.take_of_length_le hy] at h5
  rw [num_append, h1]
  simp only [num, Int.mul_zero, Int.add_zero]
  exact h5

theorem getD_past {zs : List Int} {k : Nat} (h : ¬ k < zs.length) : zs.getD k 0 = 0 := by
  rw [List.getD, List.getElem?_eq_none (by omega)]; rfl

/-- k limbs of a difference are made, c is borrowed -/
def DiffAt (xs ys : List Int) (k : Nat) (L : List Int) (c : Int) : Prop := L.length = k ∧ Wf L ∧ 0 ≤ c ∧ c ≤ 1 ∧ num L = num (xs.take k) - num (ys.take k) + 4294967296 ^ k * c

theorem DiffAt.start (xs ys : List Int) : DiffAt xs ys 0 [] 0 := ⟨rfl, Wf.nil, by omega, by omega, by simp [num]⟩

theorem DiffAt.step {xs ys L : List Int} {k : Nat} {c z c' : Int} (h : DiffAt xs ys k L c) (hz : 0 ≤ z ∧ z < 4294967296) (hc : 0 ≤ c' ∧ c' ≤ 1) (ht : z = xs.getD k 0 - ys.getD k 0 - c + 4294967296 * c') : DiffAt xs ys (k + 1) (L ++ [z]) c' := by
  obtain ⟨h1, h2, h3, h4, h5⟩ := h
  refine ⟨by simp [h1], h2.append (Wf.cons hz Wf.nil), hc.1, hc.2, ?_⟩
  rw [num_append, h1, num_take_next xs k, num_take_next ys k, Int.pow_succ]
  simp only [num, Int.mul_zero, Int.add_zero]
  have e3 : (4294967296 : Int) ^ k * z = 4294967296 ^ k * xs.getD k 0 - 4294967296 ^ k * ys.getD k 0 - 4294967296 ^ k * c + 4294967296 ^ k * 4294967296 * c' := by
    rw [ht, Int.mul_add, Int.mul_sub, Int.mul_sub, Int.mul_assoc]
  omega

theorem DiffAt.done {xs ys L : List Int} {k : Nat} {c : Int} (h : DiffAt xs ys k L c) (hx : xs.length ≤ k) (hy : ys.length ≤ k) (hle : num ys ≤ num xs) : num L = num xs - num ys := by
  obtain ⟨h1, h2, h3, h4, h5⟩ := h
  rw [List.take_of_length_le hx, List.take_of_length_le hy] at h5
  have h6 := num_lt h2
  rw [h1] at h6
  have h7 : c = 0 := by
    rcases (show c = 0 ∨ c = 1 by omega) with h | h
    · exact h
    · subst h; omega
  subst h7
  omega

/-- one limb less the borrow less another one -/
theorem sub_word' (x y c : Int) (x0 : 0 ≤ x) (x1 : x < 4294967296) (y0 : 0 ≤ y) (y1 : y < 4294967296) (c0 : 0 ≤ c) (c1 : c ≤ 1) :
    (0 ≤ IntKind.u64.wrap (IntKind.u64.wrap (x - c) - y) / 9223372036854775808 ∧ IntKind.u64.wrap (IntKind.u64.wrap (x - c) - y) / 9223372036854775808 ≤ 1) ∧
    IntKind.u64.wrap (IntKind.u64.wrap (x - c) - y) % 4294967296 = x - y - c + 4294967296 * (IntKind.u64.wrap (IntKind.u64.wrap (x - c) - y) / 9223372036854775808) := by
  rw [IntKind.wrap_u64, IntKind.wrap_u64]
  omega

theorem sub_word0 (x c : Int) (x0 : 0 ≤ x) (x1 : x < 4294967296) (c0 : 0 ≤ c) (c1 : c ≤ 1) :
    (0 ≤ IntKind.u64.wrap (x - c) / 9223372036854775808 ∧ IntKind.u64.wrap (x - c) / 9223372036854775808 ≤ 1) ∧
    IntKind.u64.wrap (x - c) % 4294967296 = x - 0 - c + 4294967296 * (IntKind.u64.wrap (x - c) / 9223372036854775808) := by
  rw [IntKind.wrap_u64]
  omega

/-- a number of fewer limbs -/
theorem len_le_of_le {a b : Nat} (h : a ≤ b) : (limbs a).length ≤ (limbs b).length := limbs_mono h
end Go.Proofs.YtecaaklbhhjcjaaGreatDoor

namespace Go.Proofs.YtecaaklbhhjcjaaGreatDoor
open Go Go.RowKit

/-- the value v holds the limbs L in memory of the call's own, in blocks from B on -/
def Own (w : World) (B : Nat) (v : Value) (L : List Int) : Prop := w.ownsRow B 63 1 v L.length (L.map (Value.int .u32))

theorem Own.nil (w : World) (B : Nat) : Own w B (.slice none 0 0) [] := ⟨rfl, Or.inl ⟨rfl, rfl⟩⟩

theorem Own.sl {w : World} {B : Nat} {v : Value} {L : List Int} (h : Own w B v L) (hw : Wf L) (hn : L.length ≤ 1099511627776) : ∃ ao cap, v = .slice ao L.length cap ∧ Sl w ao L.length cap L := by
  have h' := h
  obtain ⟨h1, h2⟩ := h
  rcases h2 with ⟨hv, h0⟩ | ⟨g, cap, cur, hv, hb, hg, hc, hm, hs, ht⟩
  · have hL : L = [] := List.eq_nil_of_length_eq_zero h0
    subst hL
    exact ⟨none, 0, hv, Sl.nil w⟩
  · refine ⟨some ⟨g, 0, none⟩, cap, hv, rfl, hc, hn, hw, fun h0 => ⟨g, 0, rfl, fun j hj => ?_⟩⟩
    subst hv
    have := h'.cellAt j (by omega)
    rw [Nat.zero_add, this, List.getElem?_map, List.getElem?_eq_getElem hj, ← getD_at hj]
    rfl

theorem Own.mono {w : World} {B C : Nat} {v : Value} {L : List Int} (h : Own w B v L) (hC : C ≤ B) : Own w C v L :=
  ⟨h.1, h.2.imp id fun ⟨g, cap, cur, hv, hb, r⟩ => ⟨g, cap, cur, hv, Nat.le_trans hC hb, r⟩⟩

/-- 'append(out, x)' -/
theorem wpList_append_u32 (w0 : World) {ops : Array Oper} {rest : List Oper} {o : Oper} {a : Act} {Q : Exit → Act → World → Prop} (hgd : o.guard = none) (s x : Operand)
    (ho : o.op = .call { callee := .builtin .append, args := #[s, x], argTypes := #[22, 22] })
    (B : Nat) (v : Value) (L : List Int) (y : Int) (hs : a.eval s = v) (hx : a.eval x = .slice (some ⟨w0.heap.size, 0, none⟩) 1 1) (hown : Own w0 B v L) (hB : B ≤ w0.heap.size) (hL : L.length ≤ 1099511627776)
    (h : ∀ v' w', Own w' B v' (L ++ [y]) → Below B w0 w' → wpList Tryz.prog ops Q rest (a.put o.dst v') w') : wpList Tryz.prog ops Q (o :: rest) a (w0.alloc (.cells #[.int .u32 y] 63)) := by
  obtain ⟨i0, hi, hz0, hz1, hz2⟩ := info_parts Tryz.infoU32
  refine wpList_append_own _ hgd s x 22 ho B 63 i0 (.int .u32 0) 1 4 Tryz.underlying22 hi hz0 hz1 hz2 rfl (by decide) v L.length (L.map (Value.int .u32)) hs (World.ownsRow.alloc hown _) ⟨w0.heap.size, 0, none⟩ 1 1 [.int .u32 y] hx rfl ?_ ?_ ?_ ?_ ?_ ?_
  · intro j u hj
    have hn : (w0.alloc (.cells #[.int .u32 y] 63)).heap[w0.heap.size]? = some (.cells #[.int .u32 y] 63 (0, 0)) := heap_alloc_new w0 _
    rcases j with _ | j
    · rw [Addr.add_lit, Nat.zero_add, cell_of_row _ w0.heap.size 0 _ _ _ hn]; exact hj
    · simp at hj
  · intro u hu
    rw [List.mem_singleton] at hu
    subst hu
    rfl
  · unfold maxLen; omega
  · omega
  · simp; omega
  · intro v' w' hown' hg _
    refine h v' w' ?_ ?_
    · unfold Own
      rw [List.length_append, List.map_append]
      exact hown'
    · refine ((Below.refl B w0).alloc hB _).grown hg (by simp; omega) ?_
      intro k hk
      exact (hown.lt k hk).1
end Go.Proofs.YtecaaklbhhjcjaaGreatDoor
