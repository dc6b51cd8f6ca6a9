import Derived.Test.YtolghagbpnjpgaaDoorIMonoU6
import Derived.Deep.RegionHeld3
import Derived.Test.YtolghagbpnjpgaaDoorIMonoU7
import Derived.Deep.RegionLaw
import Derived.Deep.CutRange
import Derived.Test.YtolghagbpnjpgaaDoorIMonoU8
import Derived.Laws.Bits64
import Derived.Deep.QuietTactic
import Derived.BigQuiet
namespace Go.Proofs.YtolghagbpnjpgaaDoor
open Go Go.RowKit

theorem Own.only {w w' : World} {B g : Nat} {v : Value} {L : List Int} (h : Own w B v L) (ho : Only g w w') (hg : g < B) : Own w' B v L := by
  obtain ⟨h1, h2⟩ := h
  refine ⟨h1, ?_⟩
  rcases h2 with ⟨hv, h0⟩ | ⟨k, cap, cur, hv, hb, hk, r⟩
  · exact Or.inl ⟨hv, h0⟩
  · exact Or.inr ⟨k, cap, cur, hv, hb, by rw [ho.block k (by omega)]; exact hk, r⟩
theorem Own.drew {w : World} {B : Nat} {v : Value} {L : List Int} (h : Own w B v L) : Own w.drew B v L := h
end Go.Proofs.YtolghagbpnjpgaaDoor

namespace Go.Proofs.YtolghagbpnjpgaaDoor
open Go.RowKit

/-- a raw integer at hand: its value, its sign, its limbs -/
structure REnt where
  v : Value
  nb : Bool
  zs : List Int
def REnt.Ok (w : World) (p : REnt) : Prop := ∃ ao n ca, p.v = .agg #[.bool p.nb, .slice ao n ca] ∧ Sl w ao n ca p.zs
theorem REnt.Ok.ext {w w' : World} {p : REnt} (h : p.Ok w) (he : Ext w w') : p.Ok w' := by
  obtain ⟨ao, n, ca, h1, h2⟩ := h
  exact ⟨ao, n, ca, h1, h2.below he⟩
theorem REnt.Ok.only_box {w w' : World} {p : REnt} {g : Nat} {nb : Bool} {ao : Option Addr} {n ca : Nat} (h : p.Ok w) (hb : Box w g nb ao n ca) (ho : Only g w w') : p.Ok w' := by
  obtain ⟨ao, n, ca, h1, h2⟩ := h
  exact ⟨ao, n, ca, h1, h2.only_box hb ho⟩
theorem REnt.Ok.parts {w : World} {v : Value} {nb : Bool} {zs : List Int} (h : REnt.Ok w ⟨v, nb, zs⟩) : ∃ ao n ca, v = .agg #[.bool nb, .slice ao n ca] ∧ Sl w ao n ca zs := h
structure RSt (W w : World) (L : List REnt) : Prop where
  ext : Ext W w
  bag : ∀ p ∈ L, p.Ok w
theorem RSt.step {W w w' : World} {L : List REnt} (h : RSt W w L) (he : Ext w w') : RSt W w' L := ⟨h.ext.trans he, fun p hp => (h.bag p hp).ext he⟩
theorem RSt.drew {W w : World} {L : List REnt} (h : RSt W w L) : RSt W w.drew L := h.step (Below.refl _ _).drew
theorem RSt.alloc {W w : World} {L : List REnt} (h : RSt W w L) (o : Obj) : RSt W (w.alloc o) L := h.step ((Below.refl _ w).alloc (Nat.le_refl _) o)
theorem RSt.stored {W w : World} {L : List REnt} {g : Nat} {nb : Bool} {ao : Option Addr} {n ca : Nat} (h : RSt W w L) (hb : Box w g nb ao n ca) (hg : W.heap.size ≤ g) (mb : Bool) (bo : Option Addr) (m cb : Nat) :
    RSt W ((w.setCell ⟨g, 0, none⟩ (.bool mb)).setCell ⟨g, 1, none⟩ (.slice bo m cb)) L :=
  ⟨Below.trans h.ext ((only_set2 w g _ _).below hg), fun p hp => (h.bag p hp).only_box hb (only_set2 w g _ _)⟩

theorem ext_allocB (w : World) (o : Obj) : Ext w (w.alloc o) := (Below.refl _ _).alloc (Nat.le_refl _) o
theorem ext_drewB (w : World) : Ext w w.drew := (Below.refl _ _).drew
theorem bbox_new1v (w : World) (o : Obj) (nb : Bool) (ao : Option Addr) (n ca : Nat) : Box ((w.alloc o).alloc (.cells #[.bool nb, .slice ao n ca] 35)) (w.heap.size + 1) nb ao n ca := by
  have := Box.new (w.alloc o) nb ao n ca
  simpa using this
end Go.Proofs.YtolghagbpnjpgaaDoor

namespace Go.Proofs.YtolghagbpnjpgaaDoor
open Go.RowKit

theorem num_take_next (zs : List Int) (k : Nat) : num (zs.take (k + 1)) = num (zs.take k) + 4294967296 ^ k * zs.getD k 0 := by
  by_cases h : k < zs.length
  · exact num_take_succ zs k h
  · rw [List.take_of_length_le (by omega), List.take_of_length_le (by omega), List.getD, List.getElem?_eq_none (by omega)]
    simp

/-- k limbs of a sum are made, c goes over -/
def SumAt (xs ys : List Int) (k : Nat) (L : List Int) (c : Int) : Prop := L.length = k ∧ Wf L ∧ 0 ≤ c ∧ c ≤ 1 ∧ num L + 4294967296 ^ k * c = num (xs.take k) + num (ys.take k)

theorem SumAt.start (xs ys : List Int) : SumAt xs ys 0 [] 0 := ⟨rfl, Wf.nil, by omega, by omega, by simp [num]⟩

theorem SumAt.step {xs ys L : List Int} {k : Nat} {c t : Int} (h : SumAt xs ys k L c) (hx : Wf xs) (hy : Wf ys) (ht : t = c + xs.getD k 0 + ys.getD k 0) : SumAt xs ys (k + 1) (L ++ [t % 4294967296]) (t / 4294967296) := by
  obtain ⟨h1, h2, h3, h4, h5⟩ := h
  have x1 := hx.getD k
  have y1 := hy.getD k
  refine ⟨by simp [h1], h2.append (Wf.cons ⟨by omega, by omega⟩ Wf.nil), by omega, by omega, ?_⟩
  rw [num_append, h1, num_take_next xs k, num_take_next ys k, Int.pow_succ]
  simp only [num]
  have e : t % 4294967296 + 4294967296 * (t / 4294967296) = t := by omega
  have e2 : (4294967296 : Int) ^ k * (t % 4294967296) + 4294967296 ^ k * 4294967296 * (t / 4294967296) = 4294967296 ^ k * t := by
    rw [Int.mul_assoc, ← Int.mul_add, e]
  have e3 : (4294967296 : Int) ^ k * t = 4294967296 ^ k * c + 4294967296 ^ k * xs.getD k 0 + 4294967296 ^ k * ys.getD k 0 := by rw [ht, Int.mul_add, Int.mul_add]
  simp only [Int.mul_zero, Int.add_zero]
  omega

theorem SumAt.done {xs ys L : List Int} {k : Nat} {c : Int} (h : SumAt xs ys k L c) (hx : xs.length ≤ k) (hy : ys.length ≤ k) : Wf (L ++ [c]) ∧ (L ++ [c]).length = k + 1 ∧ num (L ++ [c]) = num xs + num ys := by
  obtain ⟨h1, h2, h3, h4, h5⟩ := h
  refine ⟨h2.append (Wf.cons ⟨by omega, by omega⟩ Wf.nil), by simp [h1], ?_⟩
  rw [List.take_of_length_le hx, List.take_of_length_le hy] at h5
  rw [num_append, h1]
  simp only [num, Int.mul_zero, Int.add_zero]
  exact h5

theorem getD_past {zs : List Int} {k : Nat} (h : ¬ k < zs.length) : zs.getD k 0 = 0 := by
  rw [List.getD, List.getElem?_eq_none (by omega)]; rfl

/-- k limbs of a difference are made, c is borrowed -/
def DiffAt (xs ys : List Int) (k : Nat) (L : List Int) (c : Int) : Prop := L.length = k ∧ Wf L ∧ 0 ≤ c ∧ c ≤ 1 ∧ num L = num (xs.take k) - num (ys.take k) + 4294967296 ^ k * c

theorem DiffAt.start (xs ys : List Int) : DiffAt xs ys 0 [] 0 := ⟨rfl, Wf.nil, by omega, by omega, by simp [num]⟩

theorem DiffAt.step {xs ys L : List Int} {k : Nat} {c z c' : Int} (h : DiffAt xs ys k L c) (hz : 0 ≤ z ∧ z < 4294967296) (hc : 0 ≤ c' ∧ c' ≤ 1) (ht : z = xs.getD k 0 - ys.getD k 0 - c + 4294967296 * c') : DiffAt xs ys (k + 1) (L ++ [z]) c' := by
  obtain ⟨h1, h2, h3, h4, h5⟩ := h
  refine ⟨by simp [h1], h2.append (Wf.cons hz Wf.nil), hc.1, hc.2, ?_⟩
  rw [num_append, h1, num_take_next xs k, num_take_next ys k, Int.pow_succ]
  simp only [num, Int.mul_zero, Int.add_zero]
  have e3 : (4294967296 : Int) ^ k * z = 4294967296 ^ k * xs.getD k 0 - 4294967296 ^ k * ys.getD k 0 - 4294967296 ^ k * c + 4294967296 ^ k * 4294967296 * c' := by
    rw [ht, Int.mul_add, Int.mul_sub, Int.mul_sub, Int.mul_assoc]
  omega

theorem DiffAt.done {xs ys L : List Int} {k : Nat} {c : Int} (h : DiffAt xs ys k L c) (hx : xs.length ≤ k) (hy : ys.length ≤ k) (hle : num ys ≤ num xs) : num L = num xs - num ys := by
  obtain ⟨h1, h2, h3, h4, h5⟩ := h
  rw [List.take_of_length_le hx, List.take_of_length_le hy] at h5
  have h6 := num_lt h2
  rw [h1] at h6
  have h7 : c = 0 := by
    rcases (show c = 0 ∨ c = 1 by omega) with h | h
    · exact h
    · subst h; omega
  subst h7
  omega

/-- one limb less the borrow less another one -/
theorem sub_word' (x y c : Int) (x0 : 0 ≤ x) (x1 : x < 4294967296) (y0 : 0 ≤ y) (y1 : y < 4294967296) (c0 : 0 ≤ c) (c1 : c ≤ 1) :
    (0 ≤ IntKind.u64.wrap (IntKind.u64.wrap (x - c) - y) / 9223372036854775808 ∧ IntKind.u64.wrap (IntKind.u64.wrap (x - c) - y) / 9223372036854775808 ≤ 1) ∧
    IntKind.u64.wrap (IntKind.u64.wrap (x - c) - y) % 4294967296 = x - y - c + 4294967296 * (IntKind.u64.wrap (IntKind.u64.wrap (x - c) - y) / 9223372036854775808) := by
  rw [IntKind.wrap_u64, IntKind.wrap_u64]
  omega

theorem sub_word0 (x c : Int) (x0 : 0 ≤ x) (x1 : x < 4294967296) (c0 : 0 ≤ c) (c1 : c ≤ 1) :
    (0 ≤ IntKind.u64.wrap (x - c) / 9223372036854775808 ∧ IntKind.u64.wrap (x - c) / 9223372036854775808 ≤ 1) ∧
    IntKind.u64.wrap (x - c) % 4294967296 = x - 0 - c + 4294967296 * (IntKind.u64.wrap (x - c) / 9223372036854775808) := by
  rw [IntKind.wrap_u64]
  omega

end Go.Proofs.YtolghagbpnjpgaaDoor

namespace Go.Proofs.YtolghagbpnjpgaaDoor
open Go.RowKit

set_option maxRecDepth 100000 in
set_option maxHeartbeats 1000000 in
theorem refCmpMag_any (a b : Nat) (ao bo : Option Addr) (n m ca cb : Nat) (w : World) (ha : Sl w ao n ca (limbs a)) (hb : Sl w bo m cb (limbs b)) :
    Calls Tryd.prog 127 #[.slice ao n ca, .slice bo m cb] w fun e w' => e = .returned (.int .i64 (sgn3 a b)) ∧ ∃ q, w' = w.drewN q := by
  have hna := ha.big
  have hnb := hb.big
  by_cases hnm : n = m
  · subst hnm
    have h0 : ((n : Int) != n) = false := by simp
    go_enter Tryd.func127, Tryd.ntmps127
    go_wp2
    go_loopw [5] (fun i wr => ∃ k q : Nat, k ≤ n ∧ i = .int .i64 ((k : Int) - 1) ∧ (limbs a).drop k = (limbs b).drop k ∧ wr = w.drewN q) (fun i _ => (intOf i + 1).toNat)
    case atStart => exact ⟨n, 0, Nat.le_refl _, rfl, by rw [List.drop_eq_nil_of_le (by rw [ha.len]; exact Nat.le_refl _), List.drop_eq_nil_of_le (by rw [hb.len]; exact Nat.le_refl _)], rfl⟩
    case round =>
      obtain ⟨k, q, hk, rfl, hd, hw⟩ := hrel
      have HD := Lib.hid hd; clear hd
      subst hw
      by_cases hlt : 0 < k
      · obtain ⟨j, rfl⟩ : ∃ j, k = j + 1 := ⟨k - 1, by omega⟩
        obtain ⟨ba, oa, rfl, hca⟩ := ha.cells (by rw [ha.len]; omega)
        obtain ⟨bb, ob, rfl, hcb⟩ := hb.cells (by rw [hb.len]; omega)
        have c1 := hca j (by rw [ha.len]; omega)
        have c2 := hcb j (by rw [hb.len]; omega)
        clear hca hcb
        obtain ⟨x, hx⟩ : ∃ x, (limbs a).getD j 0 = x := ⟨_, rfl⟩
        obtain ⟨y, hy⟩ : ∃ y, (limbs b).getD j 0 = y := ⟨_, rfl⟩
        rw [hx] at c1
        rw [hy] at c2
        have HX := Lib.hid hx; clear hx
        have HY := Lib.hid hy; clear hy
        have ej : ((j + 1 : Nat) : Int) - 1 = (j : Int) := by omega
        rw [ej]
        clear ej
        by_cases hxy : x = y
        · subst hxy
          have hxx : (x != x) = false := by simp
          go_wp2
          go_quiet (fail)
          go_wp2
          go_roundw
          case rel => exact ⟨j, q + nq, by omega, by go_num, drop_eq_cons (by rw [ha.len]; omega) (by rw [hb.len]; omega) HD.out (by rw [HX.out, HY.out]), by simp [World.drewN]⟩
          case measure => simp [intOf] <;> omega
        · have hxx : (x != y) = true := by simp [hxy]
          have hs := sgn3_limb (a := a) (b := b) (by rw [ha.len, hb.len]) j (by rw [ha.len]; omega) HD.out (by rw [HX.out, HY.out]; exact hxy)
          rw [HX.out, HY.out] at hs
          have HS := Lib.hid hs; clear hs
          by_cases hlt2 : x < y
          · have hs2 : sgn3 x y = -1 := by simp [sgn3, hlt2]
            have HS2 := Lib.hid hs2; clear hs2
            clear hxy
            go_wp2
            go_quiet (fail)
            go_wp2
            go_quiet (fail)
            go_wp2
            go_ret
            exact ⟨by rw [← HS.out, HS2.out]; rfl, _, by rw [World.drewN_drewN, World.drewN_drewN]⟩
          · have hs2 : sgn3 x y = 1 := by unfold sgn3; rw [if_neg hlt2, if_pos (by omega)]
            have HS2 := Lib.hid hs2; clear hs2
            clear hxy
            go_wp2
            go_quiet (fail)
            go_wp2
            go_quiet (fail)
            go_wp2
            go_ret
            exact ⟨by rw [← HS.out, HS2.out]; rfl, _, by rw [World.drewN_drewN, World.drewN_drewN]⟩
      · obtain rfl : k = 0 := by omega
        clear ha hb
        go_wp2
        go_ret
        refine ⟨?_, q, rfl⟩
        have hd := HD.out
        rw [List.drop_zero, List.drop_zero] at hd
        obtain rfl := limbs_inj hd
        simp [sgn3]
  · have h0 : ((n : Int) != m) = true := by simp; omega
    have hs := sgn3_lens (a := a) (b := b) (by rw [ha.len, hb.len]; exact hnm)
    rw [ha.len, hb.len] at hs
    have HS := Lib.hid hs; clear hs
    by_cases hlt : n < m
    · have hs2 : sgn3 (n : Int) m = -1 := by unfold sgn3; rw [if_pos (by omega)]
      have HS2 := Lib.hid hs2; clear hs2
      go_enter Tryd.func127, Tryd.ntmps127
      go_wp2
      go_ret
      exact ⟨by rw [← HS.out, HS2.out]; rfl, 0, rfl⟩
    · have hs2 : sgn3 (n : Int) m = 1 := by unfold sgn3; rw [if_neg (by omega), if_pos (by omega)]
      have HS2 := Lib.hid hs2; clear hs2
      go_enter Tryd.func127, Tryd.ntmps127
      go_wp2
      go_ret
      exact ⟨by rw [← HS.out, HS2.out]; rfl, 0, rfl⟩
end Go.Proofs.YtolghagbpnjpgaaDoor

namespace Go.Proofs.YtolghagbpnjpgaaDoor
open Go.RowKit

set_option maxRecDepth 100000 in
set_option maxHeartbeats 2000000 in
theorem refAddMag_any (xs ys : List Int) (ao bo : Option Addr) (n m ca cb : Nat) (w : World) (ha : Sl w ao n ca xs) (hb : Sl w bo m cb ys) (hn : n ≤ 1000000000) (hm : m ≤ 1000000000) :
    Calls Tryd.prog 126 #[.slice ao n ca, .slice bo m cb] w fun e w' => ∃ ro l cr L, e = .returned (.slice ro l cr) ∧ Sl w' ro l cr L ∧ num L = num xs + num ys ∧ l = max n m + 1 ∧ Ext w w' := by
  have hal := ha.len
  have HAL := Lib.hid hal; clear hal
  have hbl := hb.len
  have HBL := Lib.hid hbl; clear hbl
  have hwx := ha.wf
  have hwy := hb.wf
  go_enter Tryd.func126, Tryd.ntmps126
  have hB0 := Below.refl w.heap.size w
  generalize hBe : w.heap.size = B at *
  have HBe := Lib.hid hBe; clear hBe
  go_wp2
  go_loopw [5, 6, 7] (fun v c i wr => ∃ (q : Nat) (L : List Int) (cc : Int), q ≤ max n m ∧ i = .int .i64 q ∧ c = .int .u64 cc ∧ SumAt xs ys q L cc ∧ Own wr B v L ∧ Below B w wr) (fun _ _ i _ => max n m - (intOf i).toNat)
  case atStart => exact ⟨0, [], 0, Nat.zero_le _, rfl, rfl, SumAt.start xs ys, Own.nil _ _, hB0⟩
  case round =>
    obtain ⟨q, L, cc, hq, rfl, rfl, hsh, hown, hB⟩ := hrel
    have hlen : L.length = q := hsh.1
    have hc0 := hsh.2.2.1
    have hc1 := hsh.2.2.2.1
    have HSH := Lib.hid hsh; clear hsh
    have hszq : B ≤ wr.heap.size := by have := hB.size; have := HBe.out; omega
    have HSZ := Lib.hid hszq; clear hszq
    have hlq : L.length ≤ 1099511627776 := by omega
    have HLQ := Lib.hid hlq; clear hlq hlen
    have hxr := hwx.getD q
    have hyr := hwy.getD q
    obtain ⟨x, hx⟩ : ∃ x, xs.getD q 0 = x := ⟨_, rfl⟩
    obtain ⟨y, hy⟩ : ∃ y, ys.getD q 0 = y := ⟨_, rfl⟩
    rw [hx] at hxr
    rw [hy] at hyr
    obtain ⟨x0, x1⟩ := hxr
    obtain ⟨y0, y1⟩ := hyr
    have HX := Lib.hid hx
    have HY := Lib.hid hy
    by_cases hnm : n < m
    · by_cases hlt : q < m
      · by_cases h1 : q < n
        · obtain ⟨b, off, e0, hc⟩ := (ha.below (by rw [HBe.out]; exact hB)).cells (by rw [HAL.out]; omega)
          subst e0
          have c1 := hc q (by rw [HAL.out]; omega)
          rw [hx] at c1
          clear hc
          obtain ⟨b', off', e0', hc'⟩ := (hb.below (by rw [HBe.out]; exact hB)).cells (by rw [HBL.out]; omega)
          subst e0'
          have c2 := hc' q (by rw [HBL.out]; omega)
          rw [hy] at c2
          clear hc'
          clear hx hy
          go_wp2_with (at_builtin; refine wpList_append_u32 _ rfl (.tmp 39) (.tmp 42) rfl B _ L _ rfl rfl hown HSZ.out HLQ.out ?_)
          intro v' w2 hown' hB1
          go_wp2
          go_roundw
          case rel => exact ⟨q + 1, _, _, by omega, by go_num, rfl, HSH.out.step hwx hwy (by rw [HX.out, HY.out]), hown', hB.trans hB1⟩
          case measure => simp [intOf] <;> omega
        · obtain ⟨b', off', e0', hc'⟩ := (hb.below (by rw [HBe.out]; exact hB)).cells (by rw [HBL.out]; omega)
          subst e0'
          have c2 := hc' q (by rw [HBL.out]; omega)
          rw [hy] at c2
          clear hc'
          have hx0 : x = 0 := by rw [← HX.out]; exact getD_past (by rw [HAL.out]; omega)
          have HX0 := Lib.hid hx0; clear hx0
          clear hx hy
          go_wp2_with (at_builtin; refine wpList_append_u32 _ rfl (.tmp 39) (.tmp 42) rfl B _ L _ rfl rfl hown HSZ.out HLQ.out ?_)
          intro v' w2 hown' hB1
          go_wp2
          go_roundw
          case rel => exact ⟨q + 1, _, _, by omega, by go_num, rfl, HSH.out.step hwx hwy (by rw [HX.out, HY.out, HX0.out, Int.add_zero]), hown', hB.trans hB1⟩
          case measure => simp [intOf] <;> omega
      · have HQM := Lib.hid (show q = max n m by omega)
        clear hx hy
        go_wp2_with (at_builtin; refine wpList_append_u32 _ rfl (.tmp 46) (.tmp 49) rfl B _ L _ rfl rfl hown HSZ.out HLQ.out ?_)
        intro v' w2 hown' hB1
        obtain ⟨hwf, hll, hnum⟩ := HSH.out.done (by rw [HAL.out]; omega) (by rw [HBL.out]; omega)
        obtain ⟨ro, rc, rfl, hsl⟩ := hown'.sl hwf (by rw [hll]; omega)
        have HSL := Lib.hid hsl
        have HNUM := Lib.hid hnum
        have HLL := Lib.hid hll
        clear hsl hnum hown' hwf hll
        go_wp2
        go_ret
        exact ⟨ro, _, rc, _, rfl, HSL.out, HNUM.out, by rw [HLL.out, HQM.out], by rw [Ext, HBe.out]; exact hB.trans hB1⟩
    · by_cases hlt : q < n
      · by_cases h1 : q < m
        · obtain ⟨b, off, e0, hc⟩ := (ha.below (by rw [HBe.out]; exact hB)).cells (by rw [HAL.out]; omega)
          subst e0
          have c1 := hc q (by rw [HAL.out]; omega)
          rw [hx] at c1
          clear hc
          obtain ⟨b', off', e0', hc'⟩ := (hb.below (by rw [HBe.out]; exact hB)).cells (by rw [HBL.out]; omega)
          subst e0'
          have c2 := hc' q (by rw [HBL.out]; omega)
          rw [hy] at c2
          clear hc'
          clear hx hy
          go_wp2_with (at_builtin; refine wpList_append_u32 _ rfl (.tmp 39) (.tmp 42) rfl B _ L _ rfl rfl hown HSZ.out HLQ.out ?_)
          intro v' w2 hown' hB1
          go_wp2
          go_roundw
          case rel => exact ⟨q + 1, _, _, by omega, by go_num, rfl, HSH.out.step hwx hwy (by rw [HX.out, HY.out]), hown', hB.trans hB1⟩
          case measure => simp [intOf] <;> omega
        · obtain ⟨b, off, e0, hc⟩ := (ha.below (by rw [HBe.out]; exact hB)).cells (by rw [HAL.out]; omega)
          subst e0
          have c1 := hc q (by rw [HAL.out]; omega)
          rw [hx] at c1
          clear hc
          have hy0 : y = 0 := by rw [← HY.out]; exact getD_past (by rw [HBL.out]; omega)
          have HY0 := Lib.hid hy0; clear hy0
          clear hx hy
          go_wp2_with (at_builtin; refine wpList_append_u32 _ rfl (.tmp 39) (.tmp 42) rfl B _ L _ rfl rfl hown HSZ.out HLQ.out ?_)
          intro v' w2 hown' hB1
          go_wp2
          go_roundw
          case rel => exact ⟨q + 1, _, _, by omega, by go_num, rfl, HSH.out.step hwx hwy (by rw [HX.out, HY.out, HY0.out, Int.add_zero]), hown', hB.trans hB1⟩
          case measure => simp [intOf] <;> omega
      · have HQM := Lib.hid (show q = max n m by omega)
        clear hx hy
        go_wp2_with (at_builtin; refine wpList_append_u32 _ rfl (.tmp 46) (.tmp 49) rfl B _ L _ rfl rfl hown HSZ.out HLQ.out ?_)
        intro v' w2 hown' hB1
        obtain ⟨hwf, hll, hnum⟩ := HSH.out.done (by rw [HAL.out]; omega) (by rw [HBL.out]; omega)
        obtain ⟨ro, rc, rfl, hsl⟩ := hown'.sl hwf (by rw [hll]; omega)
        have HSL := Lib.hid hsl
        have HNUM := Lib.hid hnum
        have HLL := Lib.hid hll
        clear hsl hnum hown' hwf hll
        go_wp2
        go_ret
        exact ⟨ro, _, rc, _, rfl, HSL.out, HNUM.out, by rw [HLL.out, HQM.out], by rw [Ext, HBe.out]; exact hB.trans hB1⟩

set_option maxRecDepth 100000 in
set_option maxHeartbeats 2000000 in
theorem refSubMag_any (xs ys : List Int) (ao bo : Option Addr) (n m ca cb : Nat) (w : World) (ha : Sl w ao n ca xs) (hb : Sl w bo m cb ys) (hn : n ≤ 1000000000) (hm : m ≤ n) (hle : num ys ≤ num xs) :
    Calls Tryd.prog 128 #[.slice ao n ca, .slice bo m cb] w fun e w' => ∃ ro l cr L, e = .returned (.slice ro l cr) ∧ Sl w' ro l cr L ∧ num L = num xs - num ys ∧ l = n ∧ Ext w w' := by
  have hal := ha.len
  have HAL := Lib.hid hal; clear hal
  have hbl := hb.len
  have HBL := Lib.hid hbl; clear hbl
  have HLE := Lib.hid hle; clear hle
  have hwx := ha.wf
  have hwy := hb.wf
  go_enter Tryd.func128, Tryd.ntmps128
  have hB0 := Below.refl w.heap.size w
  generalize hBe : w.heap.size = B at *
  have HBe := Lib.hid hBe; clear hBe
  go_wp2
  go_loopw [5, 6, 7, 8] (fun v c i _ wr => ∃ (q : Nat) (L : List Int) (cc : Int), q ≤ n ∧ i = .int .i64 q ∧ c = .int .u64 cc ∧ DiffAt xs ys q L cc ∧ Own wr B v L ∧ Below B w wr) (fun _ _ i _ _ => n - (intOf i).toNat)
  case atStart => exact ⟨0, [], 0, Nat.zero_le _, rfl, rfl, DiffAt.start xs ys, Own.nil _ _, hB0⟩
  case round =>
    obtain ⟨q, L, cc, hq, rfl, rfl, hsh, hown, hB⟩ := hrel
    have hlen : L.length = q := hsh.1
    have hc0 := hsh.2.2.1
    have hc1 := hsh.2.2.2.1
    have HSH := Lib.hid hsh; clear hsh
    have hszq : B ≤ wr.heap.size := by have := hB.size; have := HBe.out; omega
    have HSZ := Lib.hid hszq; clear hszq
    have hlq : L.length ≤ 1099511627776 := by omega
    have HLQ := Lib.hid hlq; clear hlq
    by_cases hlt : q < n
    · have hxr := hwx.getD q
      have hyr := hwy.getD q
      obtain ⟨x, hx⟩ : ∃ x, xs.getD q 0 = x := ⟨_, rfl⟩
      obtain ⟨y, hy⟩ : ∃ y, ys.getD q 0 = y := ⟨_, rfl⟩
      rw [hx] at hxr
      rw [hy] at hyr
      obtain ⟨x0, x1⟩ := hxr
      obtain ⟨y0, y1⟩ := hyr
      have HX := Lib.hid hx
      have HY := Lib.hid hy
      clear hlen
      obtain ⟨b, off, e0, hc⟩ := (ha.below (by rw [HBe.out]; exact hB)).cells (by rw [HAL.out]; omega)
      subst e0
      have c1 := hc q (by rw [HAL.out]; omega)
      rw [hx] at c1
      clear hc hx
      by_cases h2 : q < m
      · obtain ⟨b', off', e0', hc'⟩ := (hb.below (by rw [HBe.out]; exact hB)).cells (by rw [HBL.out]; omega)
        subst e0'
        have c2 := hc' q (by rw [HBL.out]; omega)
        rw [hy] at c2
        clear hc' hy
        have HWD := Lib.hid (sub_word' x y cc x0 x1 y0 y1 hc0 hc1)
        go_wp2_with (at_builtin; refine wpList_append_u32 _ rfl (.tmp 33) (.tmp 36) rfl B _ L _ rfl rfl hown HSZ.out HLQ.out ?_)
        intro v' w2 hown' hB1
        go_wp2
        go_roundw
        case rel =>
          exact ⟨q + 1, _, _, by omega, by go_num, rfl, HSH.out.step ⟨Int.emod_nonneg _ (by omega), Int.emod_lt_of_pos _ (by omega)⟩ HWD.out.1 (HWD.out.2.trans (by rw [HX.out, HY.out])), hown', hB.trans hB1⟩
        case measure => simp [intOf] <;> omega
      · have hy0 : y = 0 := by rw [← HY.out]; exact getD_past (by rw [HBL.out]; exact h2)
        clear hy
        have HWD := Lib.hid (sub_word0 x cc x0 x1 hc0 hc1)
        go_wp2_with (at_builtin; refine wpList_append_u32 _ rfl (.tmp 33) (.tmp 36) rfl B _ L _ rfl rfl hown HSZ.out HLQ.out ?_)
        intro v' w2 hown' hB1
        go_wp2
        go_roundw
        case rel =>
          exact ⟨q + 1, _, _, by omega, by go_num, rfl, HSH.out.step ⟨Int.emod_nonneg _ (by omega), Int.emod_lt_of_pos _ (by omega)⟩ HWD.out.1 (HWD.out.2.trans (by rw [HX.out, HY.out, hy0])), hown', hB.trans hB1⟩
        case measure => simp [intOf] <;> omega
    · obtain rfl : q = n := by omega
      have hnum := HSH.out.done (by rw [HAL.out]; exact Nat.le_refl _) (by rw [HBL.out]; exact hm) HLE.out
      obtain ⟨ro, rc, rfl, hsl⟩ := hown.sl HSH.out.2.1 (by rw [hlen]; omega)
      have HSL := Lib.hid hsl
      have HNUM := Lib.hid hnum
      have HLL := Lib.hid hlen
      clear hsl hnum hown hlen
      go_wp2
      go_ret
      exact ⟨ro, _, rc, _, rfl, HSL.out, HNUM.out, HLL.out, by rw [Ext, HBe.out]; exact hB⟩
end Go.Proofs.YtolghagbpnjpgaaDoor
