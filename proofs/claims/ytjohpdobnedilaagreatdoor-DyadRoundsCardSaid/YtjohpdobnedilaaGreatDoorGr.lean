/- What integer.Int does for every integer. -/
import Derived.Test.YtjohpdobnedilaaGreatDoorCInt
import Derived.Test.YtjohpdobnedilaaGreatDoorGc
import Derived.Test.YtjohpdobnedilaaGreatDoorGe
import Derived.Test.YtjohpdobnedilaaGreatDoorGo
import Derived.Test.YtjohpdobnedilaaGreatDoorCRing
import Derived.Test.YtjohpdobnedilaaGreatDoorGa
import Derived.Deep.RegionLaw
import Derived.Deep.CutRange
import Derived.Test.YtjohpdobnedilaaGreatDoorGg
import Derived.Test.YtjohpdobnedilaaGreatDoorGq
import Derived.Deep.RegionHeld3
namespace Go.Proofs.YtjohpdobnedilaaGreatDoor
open Go.RowKit

/-- does it fit into an int? -/
def fitsI (x : Int) : Bool := decide (-9223372036854775808 ≤ x ∧ x ≤ 9223372036854775807)
def intOut (x : Int) : Int := if -9223372036854775808 ≤ x ∧ x ≤ 9223372036854775807 then x else 0

theorem fits_yes {x : Int} (h : -9223372036854775808 ≤ x ∧ x ≤ 9223372036854775807) : fitsI x = true ∧ intOut x = x := ⟨decide_eq_true h, if_pos h⟩
theorem fits_no {x : Int} (h : ¬ (-9223372036854775808 ≤ x ∧ x ≤ 9223372036854775807)) : fitsI x = false ∧ intOut x = 0 := ⟨decide_eq_false h, if_neg h⟩

set_option maxRecDepth 100000 in
set_option maxHeartbeats 2000000 in
theorem int_any (nb : Bool) (ao : Option Addr) (n ca : Nat) (x : Int) (w : World) (h : Bg w nb ao n ca x) :
    Calls Tryz.prog 111 #[.agg #[.bool nb, .slice ao n ca]] w fun e w' => e = .returned (.tuple #[.int .i64 (intOut x), .bool (fitsI x)]) ∧ Ext w w' := by
  obtain ⟨⟨zs, hs, hx⟩, hsm⟩ := h
  have ea : (num zs).toNat = x.natAbs := by rw [hx, sgd_natAbs hs.wf]
  have hn0 := num_nonneg hs.wf
  have hxv : (if nb then -(x.natAbs : Int) else x.natAbs) = x := by
    rw [← ea, Int.toNat_of_nonneg hn0, hx]; rfl
  clear hx hn0
  have hB := (Below.refl w.heap.size w).alloc (Nat.le_refl _) (.cells #[.bool nb, .slice ao n ca] 37)
  have hbx := Box.new w nb ao n ca
  have hs1 := hs.below hB
  have htr := trim_sl ao n ca zs _ hs1
  rw [ea] at htr
  have HT := Lib.hid htr; clear htr ea
  have k2 := limbs_len_le x.natAbs 2
  generalize hxa : x.natAbs = a at *
  clear hxa
  have K2 := Lib.hid k2; clear k2
  obtain ⟨ro, hro⟩ : ∃ v : Value, v = .int .i64 (intOut x) := ⟨_, rfl⟩
  obtain ⟨rb, hrb⟩ : ∃ v : Value, v = .bool (fitsI x) := ⟨_, rfl⟩
  rw [← hro, ← hrb]
  have HRO := Lib.hid hro; clear hro
  have HRB := Lib.hid hrb; clear hrb
  have HXV := Lib.hid hxv; clear hxv
  by_cases ha64 : a < 18446744073709551616
  · have hkk : ∀ k, (limbs a).length = k → ((k : Int) > 2) = False := by
      intro k hk
      have := K2.out.2 (by omega)
      simp; omega
    have HKK := Lib.hid hkk; clear hkk
    go_enter Tryz.func111, Tryz.ntmps111
    go_wp2_with fail
    generalize w.alloc (.cells #[.bool nb, .slice ao n ca] 37) = W at *
    generalize hg : w.heap.size = B at *
    have HG := Lib.hid hg; clear hg
    have c0 := hbx.c0
    refine HT.out.mono ?_
    rintro e w1 ⟨k, rfl, hk, rfl⟩
    have hkg := HKK.out k hk.len
    have hkb := hk.big
    go_wp2_with fail
    refine (bits0_any a ao k ca _ hk ha64).mono ?_
    rintro e w2 ⟨rfl, hw2⟩
    have c2 := (hbx.below hw2).c0
    have hBlt := hbx.lt
    have hb2 := Lib.hid (hB.trans (hw2.mono (by omega)))
    clear hw2 hbx HT hs hs1 hk hB c0 hkg hkb
    by_cases h63 : a ≤ 9223372036854775807
    · cases nb with
      | true =>
        have hy := fits_yes (x := x) (by have := HXV.out; simp only [if_true] at this; omega)
        have HY := Lib.hid hy; clear hy
        go_wp2
        go_ret2
        refine ⟨?_, by rw [Ext, HG.out]; exact hb2.out⟩
        rw [HRO.out, HRB.out, HY.out.1, HY.out.2, ← HXV.out]; rfl
      | false =>
        have hy := fits_yes (x := x) (by have := HXV.out; simp only [Bool.false_eq_true, if_false] at this; omega)
        have HY := Lib.hid hy; clear hy
        go_wp2
        go_ret2
        refine ⟨?_, by rw [Ext, HG.out]; exact hb2.out⟩
        rw [HRO.out, HRB.out, HY.out.1, HY.out.2, ← HXV.out]; rfl
    · by_cases h64 : a = 9223372036854775808
      · subst h64
        cases nb with
        | true =>
          have hx : x = -9223372036854775808 := by have := HXV.out; simp only [if_true] at this; omega
          have HX := Lib.hid hx; clear hx
          go_wp2
          go_ret2
          refine ⟨?_, by rw [Ext, HG.out]; exact hb2.out⟩
          rw [HRO.out, HRB.out, HX.out]; rfl
        | false =>
          have hx : x = 9223372036854775808 := by have := HXV.out; simp only [Bool.false_eq_true, if_false] at this; omega
          have HX := Lib.hid hx; clear hx
          go_wp2
          go_ret2
          refine ⟨?_, by rw [Ext, HG.out]; exact hb2.out⟩
          rw [HRO.out, HRB.out, HX.out]; rfl
      · have hy := fits_no (x := x) (by have := HXV.out; cases nb <;> simp only [Bool.false_eq_true, if_false, if_true] at this <;> omega)
        have HY := Lib.hid hy; clear hy
        have hne : ((a : Int) == 9223372036854775808) = false := beq_eq_false_iff_ne.2 (by omega)
        go_wp2
        go_ret2
        refine ⟨?_, by rw [Ext, HG.out]; exact hb2.out⟩
        rw [HRO.out, HRB.out, HY.out.1, HY.out.2]; rfl
  · have hkk : ∀ k, (limbs a).length = k → 2 < k := by
      intro k hk
      have := K2.out
      rw [hk] at this
      have h9 : ¬ a < 4294967296 ^ 2 := by omega
      omega
    have HKK := Lib.hid hkk; clear hkk
    have hy := fits_no (x := x) (by have := HXV.out; cases nb <;> simp only [Bool.false_eq_true, if_false, if_true] at this <;> omega)
    have HY := Lib.hid hy; clear hy
    go_enter Tryz.func111, Tryz.ntmps111
    go_wp2_with fail
    generalize w.alloc (.cells #[.bool nb, .slice ao n ca] 37) = W at *
    generalize hg : w.heap.size = B at *
    have HG := Lib.hid hg; clear hg
    have c0 := hbx.c0
    refine HT.out.mono ?_
    rintro e w1 ⟨k, rfl, hk, rfl⟩
    have hkg := HKK.out k hk.len
    have hkb := hk.big
    have hB2 := Lib.hid hB; clear hB
    go_wp2
    go_ret2
    refine ⟨?_, by rw [Ext, HG.out]; exact hB2.out⟩
    rw [HRO.out, HRB.out, HY.out.1, HY.out.2]; rfl
end Go.Proofs.YtjohpdobnedilaaGreatDoor

/- What the reference's Int does. -/
namespace Go.Proofs.YtjohpdobnedilaaGreatDoor
open Go.RowKit

/-- the first j limbs of a number as a word -/
def lowW (a j : Nat) : Int := ((a % 4294967296 ^ j : Nat) : Int)

theorem lowW_zero (a : Nat) : lowW a 0 = 0 := by unfold lowW; rw [Nat.pow_zero, Nat.mod_one]; rfl
theorem lowW_one {a : Nat} : lowW a 1 = (limbs a).getD 0 0 := by
  rw [limbs_at, Nat.pow_zero, Nat.div_one, lowW, Nat.pow_one]
theorem lowW_two {a : Nat} : lowW a 2 = (limbs a).getD 0 0 + (limbs a).getD 1 0 * 4294967296 := by
  rw [limbs_at, limbs_at, Nat.pow_zero, Nat.div_one, Nat.pow_one]
  unfold lowW
  rw [show (4294967296 : Nat) ^ 2 = 4294967296 * 4294967296 from rfl]
  omega
theorem lowW_all {a k : Nat} (h : (limbs a).length = k) : lowW a k = (a : Int) := by
  have h1 := (limbs_len_le a k).1 (by omega)
  unfold lowW
  rw [Nat.mod_eq_of_lt h1]
theorem or_none64 {y : Int} (y0 : 0 ≤ y) (y1 : y < 4294967296) : bits BinOp.or IntKind.u64 0 y = y := by
  obtain ⟨a, rfl⟩ := Int.eq_ofNat_of_zero_le y0
  have e := bits_or_u64_nat 0 a (by omega) (by omega)
  rw [Nat.zero_or] at e
  exact e

set_option maxRecDepth 100000 in
set_option maxHeartbeats 2000000 in
theorem refInt_any (nb : Bool) (ao : Option Addr) (n ca : Nat) (x : Int) (w : World) (h : Bg w nb ao n ca x) :
    Calls Tryz.prog 191 #[.agg #[.bool nb, .slice ao n ca]] w fun e w' => e = .returned (.tuple #[.int .i64 (intOut x), .bool (fitsI x)]) ∧ Ext w w' := by
  obtain ⟨ro, hro⟩ : ∃ v : Value, v = .int .i64 (intOut x) := ⟨_, rfl⟩
  obtain ⟨rb, hrb⟩ : ∃ v : Value, v = .bool (fitsI x) := ⟨_, rfl⟩
  rw [← hro, ← hrb]
  have HRO := Lib.hid hro; clear hro
  have HRB := Lib.hid hrb; clear hrb
  go_enter Tryz.func191, Tryz.ntmps191
  go_wp2_with fail
  obtain ⟨W, hW, hB, hbx, hsz⟩ := box_new w nb ao n ca
  rw [← hW]
  clear hW
  have h0 := h.below hB
  generalize hBe : w.heap.size = B at *
  have HBe := Lib.hid hBe; clear hBe h
  have k0 := hbx.c0
  have k1 := hbx.c1
  go_wp2_with fail
  refine (refNorm_any nb ao n ca x W h0).mono ?_
  rintro e w1 ⟨nr, xo, k, rc, rfl, hs1, hk, hw1⟩
  have b1 := hbx.below hw1
  obtain ⟨h1, z1⟩ := bnext hB (by omega) hw1
  have q0 := b1.c0
  have q1 := b1.c1
  have q2 := b1.f 0
  have q3 := b1.f 1
  have bst := b1.stored nr xo k rc
  have u0 := bst.c0
  have u1 := bst.c1
  have hsl := hs1.sl.only_box b1 (only_set2 w1 B (.bool nr) (.slice xo k rc))
  have HBL := Lib.hid (h1.trans ((only_set2 w1 B (.bool nr) (.slice xo k rc)).below (Nat.le_refl B)))
  have HN := Lib.hid hs1.neg
  generalize hW2 : (w1.setCell ⟨B, 0, none⟩ (.bool nr)).setCell ⟨B, 1, none⟩ (.slice xo k rc) = W2 at *
  have HW2 := Lib.hid hW2
  clear h0 hB hbx k0 k1 h1 hw1 b1 bst hs1
  have hkb := hsl.big
  have hxl := hsl.len
  go_upto_region 2 with fail
  clear hW2 q0 q1 q2 q3
  obtain ⟨a, ha⟩ : ∃ a, x.natAbs = a := ⟨_, rfl⟩
  rw [ha] at hsl hxl
  have HXL := Lib.hid hxl; clear hxl
  have hxa : x = if nr then -(a : Int) else (a : Int) := by
    rw [HN.out]
    by_cases hx : x < 0
    · simp only [hx, decide_true, if_true]; omega
    · simp only [hx, decide_false, Bool.false_eq_true, if_false]; omega
  have hxn : nr = true → a ≠ 0 := by
    intro e; rw [HN.out] at e; simp at e; omega
  have HXA := Lib.hid hxa; clear hxa
  have HXN := Lib.hid hxn; clear hxn ha
  by_cases hk2 : k ≤ 2
  · have hlt := (limbs_len_le a 2).1 (by rw [HXL.out]; exact hk2)
    have hal : a < 18446744073709551616 := hlt
    clear hlt
    go_wp2
    go_loopw [4, 5] (fun u i wr => ∃ j : Nat, j ≤ k ∧ i = .int .i64 j ∧ u = .int .u64 (lowW a j) ∧ wr = W2) (fun _ i _ => k - (intOf i).toNat)
    case atStart => exact ⟨0, Nat.zero_le _, rfl, by rw [lowW_zero], rfl⟩
    case round =>
      obtain ⟨j, hj, rfl, rfl, rfl⟩ := hrel
      by_cases hlt : j < k
      · obtain ⟨b, off, e0, hc⟩ := hsl.cells (by rw [HXL.out]; omega)
        subst e0
        have c1 := hc j (by rw [HXL.out]; omega)
        have hyr := (Wf.limbs a).getD j
        clear hc
        obtain ⟨y, hy⟩ : ∃ y, (limbs a).getD j 0 = y := ⟨_, rfl⟩
        rw [hy] at c1 hyr
        obtain ⟨y0, y1⟩ := hyr
        have HY := Lib.hid hy; clear hy
        rcases (show j = 0 ∨ j = 1 by omega) with h | h
        · subst h
          have hor := or_none64 y0 y1
          rw [lowW_zero]
          rw [Nat.add_zero] at c1
          go_wp2
          go_roundw
          case rel => exact ⟨1, by omega, by go_num, by rw [lowW_one, HY.out], by first | rfl | trivial⟩
          case measure => simp [intOf] <;> omega
        · subst h
          obtain ⟨z, hz⟩ : ∃ z, lowW a 1 = z := ⟨_, rfl⟩
          have hzr := (Wf.limbs a).getD 0
          rw [← lowW_one, hz] at hzr
          have hor := or64 hzr.1 hzr.2 y0 y1
          rw [hz]
          have HZ := Lib.hid hz; clear hz
          go_wp2
          go_roundw
          case rel => exact ⟨2, by omega, by go_num, by rw [lowW_two, HY.out, ← lowW_one, HZ.out], by first | rfl | trivial⟩
          case measure => simp [intOf] <;> omega
      · obtain rfl : j = k := by omega
        rw [lowW_all HXL.out]
        clear hsl
        by_cases h63 : a ≤ 9223372036854775807
        · cases nr with
          | true =>
            have hy := fits_yes (x := x) (by have := HXA.out; simp only [if_true] at this; omega)
            have hx2 : x = -(a : Int) := HXA.out
            have ha0 := HXN.out rfl
            have HY := Lib.hid hy; clear hy
            have HX2 := Lib.hid hx2; clear hx2
            go_wp2
            go_ret2
            refine ⟨?_, by rw [Ext, HBe.out]; exact HBL.out⟩
            rw [HRO.out, HRB.out, HY.out.1, HY.out.2, HX2.out, show -(a : Int) = -((a : Int) - 1) - 1 by omega]; rfl
          | false =>
            have hy := fits_yes (x := x) (by have := HXA.out; simp only [Bool.false_eq_true, if_false] at this; omega)
            have hx2 : x = (a : Int) := HXA.out
            have HY := Lib.hid hy; clear hy
            have HX2 := Lib.hid hx2; clear hx2
            go_wp2
            go_ret2
            refine ⟨?_, by rw [Ext, HBe.out]; exact HBL.out⟩
            rw [HRO.out, HRB.out, HY.out.1, HY.out.2, HX2.out]; rfl
        · cases nr with
          | true =>
            by_cases h64 : a = 9223372036854775808
            · subst h64
              have hx : x = -9223372036854775808 := by have := HXA.out; simp only [if_true] at this; omega
              have HX := Lib.hid hx; clear hx
              go_wp2
              go_ret2
              refine ⟨?_, by rw [Ext, HBe.out]; exact HBL.out⟩
              rw [HRO.out, HRB.out, HX.out]; rfl
            · have hy := fits_no (x := x) (by have := HXA.out; simp only [if_true] at this; omega)
              have HY := Lib.hid hy; clear hy
              go_wp2
              go_ret2
              refine ⟨?_, by rw [Ext, HBe.out]; exact HBL.out⟩
              rw [HRO.out, HRB.out, HY.out.1, HY.out.2]; rfl
          | false =>
            have hy := fits_no (x := x) (by have := HXA.out; simp only [Bool.false_eq_true, if_false] at this; omega)
            have HY := Lib.hid hy; clear hy
            go_wp2
            go_ret2
            refine ⟨?_, by rw [Ext, HBe.out]; exact HBL.out⟩
            rw [HRO.out, HRB.out, HY.out.1, HY.out.2]; rfl
  · have h9 : ¬ a < 4294967296 ^ 2 := by
      have := limbs_len_le a 2
      rw [HXL.out] at this
      omega
    have h10 : ¬ a < 18446744073709551616 := h9
    have hy := fits_no (x := x) (by have := HXA.out; cases nr <;> simp only [Bool.false_eq_true, if_false, if_true] at this <;> omega)
    have HY := Lib.hid hy; clear hy h9 h10 hsl
    go_wp2
    go_ret2
    refine ⟨?_, by rw [Ext, HBe.out]; exact HBL.out⟩
    rw [HRO.out, HRB.out, HY.out.1, HY.out.2]; rfl
end Go.Proofs.YtjohpdobnedilaaGreatDoor

/- What sparsekit.TwinBig does: a copy of an integer, limb after limb. -/
namespace Go.Proofs.YtjohpdobnedilaaGreatDoor
open Go Go.RowKit

/-- 'append(x, y)' as one step of a region that draws its order -/
theorem step_append_u32 (w0 : World) {ops : Array Oper} {o : Oper} {a : Act} {K : Act → World → Prop} {Q : Exit → Act → World → Prop} {E : Prop} (hgd : o.guard = none) (s x : Operand)
    (ho : o.op = .call { callee := .builtin .append, args := #[s, x], argTypes := #[35, 35] })
    (B : Nat) (v : Value) (L : List Int) (y : Int) (hs : a.eval s = v) (hx : a.eval x = .slice (some ⟨w0.heap.size, 0, none⟩) 1 1) (hown : Own w0 B v L) (hB : B ≤ w0.heap.size) (hL : L.length ≤ 1099511627776)
    (h : ∀ v' w', Own w' B v' (L ++ [y]) → Below B w0 w' → K (a.put o.dst v') w') :
    if Region.wanted o (yielded ops a.tmps) = true then Oper.wp Tryz.prog o a (w0.alloc (.cells #[.int .u32 y] 64)) K Q else E := by
  have hw : Region.wanted o (yielded ops a.tmps) = true := by simp [Region.wanted, hgd]
  rw [if_pos hw]
  obtain ⟨i0, hi, hz0, hz1, hz2⟩ := info_parts Tryz.infoU32
  have hnew : ∀ (j : Nat) (u : Value), [Value.int .u32 y][j]? = some u → (w0.alloc (.cells #[.int .u32 y] 64)).cell? ((⟨w0.heap.size, 0, none⟩ : Addr).add j) = some u := by
    intro j u hj
    have hn : (w0.alloc (.cells #[.int .u32 y] 64)).heap[w0.heap.size]? = some (.cells #[.int .u32 y] 64 (0, 0)) := heap_alloc_new w0 _
    rcases j with _ | j
    · rw [Addr.add_lit, Nat.zero_add, cell_of_row _ w0.heap.size 0 _ _ _ hn]; exact hj
    · simp at hj
  obtain ⟨v', w', hrun, r1, r2, _⟩ := run_append_own (P := Tryz.prog) (w0.alloc (.cells #[.int .u32 y] 64)) B 35 o.type 64 i0 (.int .u32 0) 1 4 Tryz.underlying35 hi hz0 hz1 hz2 rfl (by decide) v L.length (L.map (Value.int .u32)) (World.ownsRow.alloc hown _) ⟨w0.heap.size, 0, none⟩ 1 1 [.int .u32 y] rfl hnew
    (by intro u hu; rw [List.mem_singleton] at hu; subst hu; rfl) (by unfold maxLen; omega) (by omega) (by simp; omega)
  unfold Oper.wp
  simp [execOp, ho, resolve, invoke, builtin, hs, hx, hrun, Result.andThen]
  refine h v' w' ?_ ?_
  · unfold Own
    rw [List.length_append, List.map_append]
    exact r1
  · refine ((Below.refl B w0).alloc hB _).grown r2 (by simp; omega) ?_
    intro k hk
    exact (hown.lt k hk).1

theorem Own.only {w w' : World} {B g : Nat} {v : Value} {L : List Int} (h : Own w B v L) (ho : Only g w w') (hg : g < B) : Own w' B v L := by
  obtain ⟨h1, h2⟩ := h
  refine ⟨h1, ?_⟩
  rcases h2 with ⟨hv, h0⟩ | ⟨k, cap, cur, hv, hb, hk, r⟩
  · exact Or.inl ⟨hv, h0⟩
  · exact Or.inr ⟨k, cap, cur, hv, hb, by rw [ho.block k (by omega)]; exact hk, r⟩
theorem Own.drew {w : World} {B : Nat} {v : Value} {L : List Int} (h : Own w B v L) : Own w.drew B v L := h
theorem Box.stored1 {w : World} {g : Nat} {nb : Bool} {ao : Option Addr} {n cap : Nat} (h : Box w g nb ao n cap) (bo : Option Addr) (m cb : Nat) :
    Box (w.setCell ⟨g, 1, none⟩ (.slice bo m cb)) g nb bo m cb := by
  unfold Box at h ⊢
  simp [World.setCell, Array.getElem?_modify, h]

/-- the value written out -/
theorem own_form {w : World} {B m : Nat} {v : Value} {L : List Int} (h : Own w B v L) (hw : Wf L) (hn : L.length = m) (hm : m ≤ 1099511627776) : ∃ ao cap, v = .slice ao m cap ∧ Own w B (.slice ao m cap) L ∧ Sl w ao m cap L := by
  subst hn
  obtain ⟨ao, cap, rfl, hs⟩ := h.sl hw hm
  exact ⟨ao, cap, rfl, h, hs⟩

end Go.Proofs.YtjohpdobnedilaaGreatDoor

/- Raw integers at hand: two that a statement stores into variables of its own. -/
namespace Go.Proofs.YtjohpdobnedilaaGreatDoor
open Go.RowKit

/-- a raw integer at hand: its value, its sign, its limbs -/
structure REnt where
  v : Value
  nb : Bool
  zs : List Int
def REnt.Ok (w : World) (p : REnt) : Prop := ∃ ao n ca, p.v = .agg #[.bool p.nb, .slice ao n ca] ∧ Sl w ao n ca p.zs
theorem REnt.Ok.ext {w w' : World} {p : REnt} (h : p.Ok w) (he : Ext w w') : p.Ok w' := by
  obtain ⟨ao, n, ca, h1, h2⟩ := h
  exact ⟨ao, n, ca, h1, h2.below he⟩
theorem REnt.Ok.only_box {w w' : World} {p : REnt} {g : Nat} {nb : Bool} {ao : Option Addr} {n ca : Nat} (h : p.Ok w) (hb : Box w g nb ao n ca) (ho : Only g w w') : p.Ok w' := by
  obtain ⟨ao, n, ca, h1, h2⟩ := h
  exact ⟨ao, n, ca, h1, h2.only_box hb ho⟩
theorem REnt.Ok.parts {w : World} {v : Value} {nb : Bool} {zs : List Int} (h : REnt.Ok w ⟨v, nb, zs⟩) : ∃ ao n ca, v = .agg #[.bool nb, .slice ao n ca] ∧ Sl w ao n ca zs := h
structure RSt (W w : World) (L : List REnt) : Prop where
  ext : Ext W w
  bag : ∀ p ∈ L, p.Ok w
theorem RSt.step {W w w' : World} {L : List REnt} (h : RSt W w L) (he : Ext w w') : RSt W w' L := ⟨h.ext.trans he, fun p hp => (h.bag p hp).ext he⟩
theorem RSt.self {W w : World} {L : List REnt} (h : RSt W w L) : RSt w w L := ⟨Ext.refl w, h.bag⟩
theorem RSt.drew {W w : World} {L : List REnt} (h : RSt W w L) : RSt W w.drew L := h.step (Below.refl _ _).drew
theorem RSt.alloc {W w : World} {L : List REnt} (h : RSt W w L) (o : Obj) : RSt W (w.alloc o) L := h.step ((Below.refl _ w).alloc (Nat.le_refl _) o)
theorem RSt.stored {W w : World} {L : List REnt} {g : Nat} {nb : Bool} {ao : Option Addr} {n ca : Nat} (h : RSt W w L) (hb : Box w g nb ao n ca) (hg : W.heap.size ≤ g) (mb : Bool) (bo : Option Addr) (m cb : Nat) :
    RSt W ((w.setCell ⟨g, 0, none⟩ (.bool mb)).setCell ⟨g, 1, none⟩ (.slice bo m cb)) L :=
  ⟨Below.trans h.ext ((only_set2 w g _ _).below hg), fun p hp => (h.bag p hp).only_box hb (only_set2 w g _ _)⟩

/-- both variables are written -/
theorem bpair_stored {W w : World} {L : List REnt} {g h : Nat} {xn yn : Bool} {xo yo : Option Addr} {xk xc yk yc : Nat} {an bn : Bool} {ao bo : Option Addr} {ak ac bk bc : Nat}
    (hg : Box w g an ao ak ac) (hh : Box w h bn bo bk bc) (hne : g ≠ h) (hst : RSt W w L) (h1 : W.heap.size ≤ g) (h2 : W.heap.size ≤ h) :
    Box ((((w.setCell ⟨g, 0, none⟩ (.bool xn)).setCell ⟨g, 1, none⟩ (.slice xo xk xc)).setCell ⟨h, 0, none⟩ (.bool yn)).setCell ⟨h, 1, none⟩ (.slice yo yk yc)) g xn xo xk xc ∧
    Box ((((w.setCell ⟨g, 0, none⟩ (.bool xn)).setCell ⟨g, 1, none⟩ (.slice xo xk xc)).setCell ⟨h, 0, none⟩ (.bool yn)).setCell ⟨h, 1, none⟩ (.slice yo yk yc)) h yn yo yk yc ∧
    RSt W ((((w.setCell ⟨g, 0, none⟩ (.bool xn)).setCell ⟨g, 1, none⟩ (.slice xo xk xc)).setCell ⟨h, 0, none⟩ (.bool yn)).setCell ⟨h, 1, none⟩ (.slice yo yk yc)) L := by
  have a := hg.stored xn xo xk xc
  have b := hh.only (only_set2 w g (.bool xn) (.slice xo xk xc)) (Ne.symm hne)
  have s := hst.stored hg h1 xn xo xk xc
  exact ⟨a.only (only_set2 _ h _ _) hne, b.stored yn yo yk yc, s.stored b h2 yn yo yk yc⟩

theorem ext_allocB (w : World) (o : Obj) : Ext w (w.alloc o) := (Below.refl _ _).alloc (Nat.le_refl _) o
theorem ext_drewB (w : World) : Ext w w.drew := (Below.refl _ _).drew
theorem sizeB {a b : World} (h : Ext a b) : a.heap.size ≤ b.heap.size := Below.size h
theorem bbox_new1v (w : World) (o : Obj) (nb : Bool) (ao : Option Addr) (n ca : Nat) : Box ((w.alloc o).alloc (.cells #[.bool nb, .slice ao n ca] 37)) (w.heap.size + 1) nb ao n ca := by
  have := Box.new (w.alloc o) nb ao n ca
  simpa using this
theorem bbox_in1 {w wn : World} (h : Ext (w.alloc (.cells #[.bool false, .slice none 0 0] 37)) wn) : Box wn w.heap.size false none 0 0 := (Box.new w _ _ _ _).below h
theorem bbox_in2 {w wn : World} (h : Ext ((w.alloc (.cells #[.bool false, .slice none 0 0] 37)).alloc (.cells #[.bool false, .slice none 0 0] 37)) wn) :
    Box wn w.heap.size false none 0 0 ∧ Box wn (w.heap.size + 1) false none 0 0 :=
  ⟨((Box.new w _ _ _ _).below (ext_allocB _ _)).below h, (bbox_new1v w _ false none 0 0).below h⟩
theorem bbox_in1d {w wn : World} (h : Ext (w.alloc (.cells #[.bool false, .slice none 0 0] 37)).drew wn) : Box wn w.heap.size false none 0 0 := bbox_in1 ((ext_drewB _).trans h)
theorem bbox_in2d {w wn : World} (h : Ext ((w.alloc (.cells #[.bool false, .slice none 0 0] 37)).alloc (.cells #[.bool false, .slice none 0 0] 37)).drew wn) :
    Box wn w.heap.size false none 0 0 ∧ Box wn (w.heap.size + 1) false none 0 0 := bbox_in2 ((ext_drewB _).trans h)
theorem bbox_new_set (w : World) (g : Nat) (u v : Value) (nb : Bool) (ao : Option Addr) (n ca : Nat) :
    Box (((w.setCell ⟨g, 0, none⟩ u).setCell ⟨g, 1, none⟩ v).alloc (.cells #[.bool nb, .slice ao n ca] 37)) w.heap.size nb ao n ca := by
  have := Box.new ((w.setCell ⟨g, 0, none⟩ u).setCell ⟨g, 1, none⟩ v) nb ao n ca
  rwa [(only_set2 w g u v).size] at this

theorem bcells_only {w w' : World} {g B : Nat} {a b : Option Value} (ho : Only g w w') (hne : g ≠ B) (h : w.cell? ⟨B, 0, none⟩ = a ∧ w.cell? ⟨B, 1, none⟩ = b) : w'.cell? ⟨B, 0, none⟩ = a ∧ w'.cell? ⟨B, 1, none⟩ = b := by
  have e : ∀ i, w'.cell? ⟨B, i, none⟩ = w.cell? ⟨B, i, none⟩ := fun i => World.cell?_of_block (w := w) (ho.block B (Ne.symm hne))
  rw [e, e]
  exact h
theorem bcells_stored {w : World} {g B : Nat} {u v : Value} {a b : Option Value} (hne : g ≠ B) (h : w.cell? ⟨B, 0, none⟩ = a ∧ w.cell? ⟨B, 1, none⟩ = b) :
    ((w.setCell ⟨g, 0, none⟩ u).setCell ⟨g, 1, none⟩ v).cell? ⟨B, 0, none⟩ = a ∧ ((w.setCell ⟨g, 0, none⟩ u).setCell ⟨g, 1, none⟩ v).cell? ⟨B, 1, none⟩ = b := bcells_only (only_set2 w g u v) hne h
theorem bcells_alloc {w : World} {B : Nat} {o : Obj} {a b : Value} (h : w.cell? ⟨B, 0, none⟩ = some a ∧ w.cell? ⟨B, 1, none⟩ = some b) : (w.alloc o).cell? ⟨B, 0, none⟩ = some a ∧ (w.alloc o).cell? ⟨B, 1, none⟩ = some b := by
  obtain ⟨h0, h1⟩ := h
  have hb := lt_of_cell h0
  refine ⟨?_, ?_⟩
  · rw [World.cell?_alloc_past _ _ _ hb]; exact h0
  · rw [World.cell?_alloc_past _ _ _ hb]; exact h1
theorem bcells_drew {w : World} {B : Nat} {a b : Option Value} (h : w.cell? ⟨B, 0, none⟩ = a ∧ w.cell? ⟨B, 1, none⟩ = b) : w.drew.cell? ⟨B, 0, none⟩ = a ∧ w.drew.cell? ⟨B, 1, none⟩ = b := h

/-- both variables are laid behind the calls -/
theorem bfin_new {W w : World} {L : List REnt} {xn yn : Bool} {xo yo : Option Addr} {xk xc yk yc : Nat} (h : RSt W w L) :
    Box ((w.alloc (.cells #[.bool xn, .slice xo xk xc] 37)).alloc (.cells #[.bool yn, .slice yo yk yc] 37)) w.heap.size xn xo xk xc ∧ Box ((w.alloc (.cells #[.bool xn, .slice xo xk xc] 37)).alloc (.cells #[.bool yn, .slice yo yk yc] 37)) (w.heap.size + 1) yn yo yk yc ∧ RSt W ((w.alloc (.cells #[.bool xn, .slice xo xk xc] 37)).alloc (.cells #[.bool yn, .slice yo yk yc] 37)) L :=
  ⟨(Box.new w xn xo xk xc).below (ext_allocB _ _), bbox_new1v _ _ yn yo yk yc, (h.alloc _).alloc _⟩
/-- one is laid behind the calls -/
theorem bfin_mix {W w : World} {L : List REnt} {g : Nat} {xn yn : Bool} {xo yo : Option Addr} {xk xc yk yc : Nat} {an : Bool} {ao : Option Addr} {ak ac : Nat} (h : RSt W w L) (hx : Box w g an ao ak ac) (hg : W.heap.size ≤ g) :
    Box (((w.setCell ⟨g, 0, none⟩ (.bool xn)).setCell ⟨g, 1, none⟩ (.slice xo xk xc)).alloc (.cells #[.bool yn, .slice yo yk yc] 37)) g xn xo xk xc ∧ Box (((w.setCell ⟨g, 0, none⟩ (.bool xn)).setCell ⟨g, 1, none⟩ (.slice xo xk xc)).alloc (.cells #[.bool yn, .slice yo yk yc] 37)) w.heap.size yn yo yk yc ∧ RSt W (((w.setCell ⟨g, 0, none⟩ (.bool xn)).setCell ⟨g, 1, none⟩ (.slice xo xk xc)).alloc (.cells #[.bool yn, .slice yo yk yc] 37)) L :=
  ⟨(hx.stored xn xo xk xc).below (ext_allocB _ _), bbox_new_set _ _ _ _ yn yo yk yc, (h.stored hx hg xn xo xk xc).alloc _⟩

/-- the same limbs and sign -/
theorem big_rbag {W w : World} {L : List REnt} {u v : Value} {nb : Bool} {zs : List Int} (h : RSt W w L) (h1 : ⟨u, nb, zs⟩ ∈ L) (h2 : ⟨v, nb, zs⟩ ∈ L) :
    Calls Tryz.prog 52 #[u, v] w fun e w' => e = .returned (.bool true) ∧ RSt W w' L := by
  obtain ⟨ao, n, ca, rfl, hs⟩ := (h.bag _ h1).parts
  obtain ⟨bo, m, cb, rfl, hu⟩ := (h.bag _ h2).parts
  exact (big_same nb nb ao n ca bo m cb zs w rfl hs hu).mono fun e w' ⟨he, hw⟩ => ⟨he, h.step hw⟩
theorem rent_ent {w : World} {v : Value} {nb : Bool} {zs : List Int} (h : REnt.Ok w ⟨v, nb, zs⟩) (N : Nat) (hn : zs.length ≤ N) (hN : N ≤ 100000) : Ent.Ok w ⟨v, sgd nb zs, N, false⟩ := by
  obtain ⟨ao, n, ca, h1, h2⟩ := h
  simp only at h1 h2
  subst h1
  exact ok_raw h2 N (by rw [← h2.len]; exact hn) hN
end Go.Proofs.YtjohpdobnedilaaGreatDoor

/- IntegerExact returns true, from what its callees do. -/
namespace Go.Proofs.YtjohpdobnedilaaGreatDoor
open Go.RowKit

section
variable {W w : World} {L : List Ent} {u v : Value} {x y : Int} {N M : Nat} {c d : Bool}
theorem refNorm_bag (h : St W w L) (h1 : ⟨u, x, N, c⟩ ∈ L) (hN : N ≤ 100000) :
    Calls Tryz.prog 125 #[u] w fun e w' => ∃ r, e = .returned r ∧ St W w' (⟨r, x, N, true⟩ :: L) := by
  obtain ⟨nb, ao, n, ca, rfl, b1, n1, a1, _⟩ := h.bag _ h1
  exact (refNorm_any nb ao n ca x w b1).mono fun e w' ⟨nr, ro, k, cr, he, hr, _, hw⟩ => ⟨_, he, h.push hw (ok_bn hr a1 (by omega))⟩
theorem refNeg_bag (h : St W w L) (h1 : ⟨u, x, N, c⟩ ∈ L) (hN : N ≤ 100000) :
    Calls Tryz.prog 178 #[u] w fun e w' => ∃ r, e = .returned r ∧ St W w' (⟨r, -x, N, true⟩ :: L) := by
  obtain ⟨nb, ao, n, ca, rfl, b1, n1, a1, _⟩ := h.bag _ h1
  exact (refNeg_any nb ao n ca x w b1).mono fun e w' ⟨nr, ro, k, cr, he, hr, _, hw⟩ => ⟨_, he, h.push hw (ok_bn hr (by rw [Int.natAbs_neg]; exact a1) (by omega))⟩
theorem refAbs_bag (h : St W w L) (h1 : ⟨u, x, N, c⟩ ∈ L) (hN : N ≤ 100000) :
    Calls Tryz.prog 103 #[u] w fun e w' => ∃ r, e = .returned r ∧ St W w' (⟨r, x.natAbs, N, true⟩ :: L) := by
  obtain ⟨nb, ao, n, ca, rfl, b1, n1, a1, _⟩ := h.bag _ h1
  exact (refAbs_any nb ao n ca x w b1).mono fun e w' ⟨nr, ro, k, cr, he, hr, _, hw⟩ => ⟨_, he, h.push hw (ok_bn hr (by simpa using a1) (by omega))⟩
theorem refAdd_bag (h : St W w L) (h1 : ⟨u, x, N, c⟩ ∈ L) (h2 : ⟨v, y, M, d⟩ ∈ L) (hN : N ≤ 100000) (hM : M ≤ 100000) :
    Calls Tryz.prog 132 #[u, v] w fun e w' => ∃ r, e = .returned r ∧ St W w' (⟨r, x + y, max N M + 1, true⟩ :: L) := by
  obtain ⟨nb, ao, n, ca, rfl, b1, n1, a1, _⟩ := h.bag _ h1
  obtain ⟨mb, bo, m, cb, rfl, b2, n2, a2, _⟩ := h.bag _ h2
  exact (refAdd_any nb mb ao n ca bo m cb x y w b1 b2).mono fun e w' ⟨nr, ro, k, cr, he, hr, hw⟩ => ⟨_, he, h.push hw (ok_bn hr (abs_add a1 a2) (by omega))⟩
theorem refMul_bag (h : St W w L) (h1 : ⟨u, x, N, c⟩ ∈ L) (h2 : ⟨v, y, M, d⟩ ∈ L) (hN : N ≤ 100000) (hM : M ≤ 100000) :
    Calls Tryz.prog 146 #[u, v] w fun e w' => ∃ r, e = .returned r ∧ St W w' (⟨r, x * y, N + M, true⟩ :: L) := by
  obtain ⟨nb, ao, n, ca, rfl, b1, n1, a1, _⟩ := h.bag _ h1
  obtain ⟨mb, bo, m, cb, rfl, b2, n2, a2, _⟩ := h.bag _ h2
  exact (refMul_any nb mb ao n ca bo m cb x y w b1 b2).mono fun e w' ⟨nr, ro, k, cr, he, hr, hw⟩ => ⟨_, he, h.push hw (ok_bn hr (abs_mul a1 a2) (by omega))⟩
end

/-- two boxes -/
theorem box_pair (w : World) (nb : Bool) (ao : Option Addr) (n ca : Nat) (mb : Bool) (bo : Option Addr) (m cb : Nat) :
    ∃ W, W = (w.alloc (.cells #[.bool nb, .slice ao n ca] 37)).alloc (.cells #[.bool mb, .slice bo m cb] 37) ∧ Ext w W ∧ Box W w.heap.size nb ao n ca ∧ Box W (w.heap.size + 1) mb bo m cb := by
  refine ⟨_, rfl, ((Below.refl _ w).alloc (Nat.le_refl _) _).alloc (by simp) _, ?_, ?_⟩
  · exact (Box.new w nb ao n ca).below ((Below.refl _ _).alloc (Nat.le_refl _) _)
  · have := Box.new (w.alloc (.cells #[.bool nb, .slice ao n ca] 37)) mb bo m cb
    simpa using this

set_option maxRecDepth 100000 in
set_option maxHeartbeats 4000000 in
theorem refSub_any (nb mb : Bool) (ao : Option Addr) (n ca : Nat) (bo : Option Addr) (m cb : Nat) (x y : Int) (w : World) (ha : Bg w nb ao n ca x) (hb : Bg w mb bo m cb y) :
    Calls Tryz.prog 129 #[.agg #[.bool nb, .slice ao n ca], .agg #[.bool mb, .slice bo m cb]] w fun e w' => ∃ nr ro k cr, e = .returned (.agg #[.bool nr, .slice ro k cr]) ∧ Bn w' nr ro k cr (x - y) ∧ Ext w w' := by
  go_enter Tryz.func129, Tryz.ntmps129
  go_wp2_with fail
  obtain ⟨W, hW, hB, hbx, hby, hrx, hz⟩ := boxes2 w nb ao n ca mb bo m cb
  rw [← hW]
  clear hW
  have ha0 := ha.below hB
  have hb0 := hb.below hB
  generalize hBe : w.heap.size = B at *
  have HBe := Lib.hid hBe; clear hBe
  have hBelow := Lib.hid hB
  clear ha hb hB
  have k0 := hbx.c0
  have k1' := hbx.c1
  have l0 := hby.c0
  have l1' := hby.c1
  go_region_held3 (fun w' => w'.cell? ⟨B, 0, none⟩ = some (.bool nb) ∧ w'.cell? ⟨B, 1, none⟩ = some (.slice ao n ca) ∧ w'.cell? ⟨B + 1, 0, none⟩ = some (.bool mb) ∧ w'.cell? ⟨B + 1, 1, none⟩ = some (.slice bo m cb))
    (first | exact ⟨k0, k1', l0, l1'⟩ | exact ⟨x1.c0, x1.c1, v1.c0, v1.c1⟩ | exact ⟨x2.c0, x2.c1, v2.c0, v2.c1⟩ | (refine ⟨?_, ?_, ?_, ?_⟩ <;> go_simp))
    (first
      | (go_at_call 178; refine (refNeg_any mb bo m cb y _ (by exact hb0.drew)).mono ?_; rintro e w1 ⟨gn, go', gk, gc, rfl, hg1, hgk, hw1⟩; have x1 := hbx.drew.below hw1; have v1 := hby.drew.below hw1; have y1 := hrx.drew.below hw1; have e0 := x1.c0; have e1 := x1.c1; have e2 := v1.c0; have e3 := v1.c1)
      | (go_at_call 132; refine (refAdd_any nb gn ao n ca go' gk gc x (-y) _ (by exact ha0.drew.below hw1) (by exact hg1.bg (Nat.le_trans hgk hb0.small))).mono ?_; rintro e w2 ⟨nr, ro, k, rc, rfl, hs2, hw2⟩; have x2 := x1.below hw2; have v2 := v1.below hw2; have y2 := y1.below hw2; clear e0 e1 e2 e3; have e0 := x2.c0; have e1 := x2.c1; have e2 := v2.c0; have e3 := v2.c1; have q0 := y2.c0; have q1 := y2.c1; have q2 := y2.f 0; have q3 := y2.f 1))
  obtain ⟨b1, l1⟩ := bnext hBelow.out (by omega) (Below.refl _ W).drew
  obtain ⟨b2, l2⟩ := bnext b1 l1 hw1
  obtain ⟨b3, l3⟩ := bnext b2 l2 hw2
  have hst := y2.stored nr ro k rc
  have u0 := hst.c0
  have u1 := hst.c1
  have HRES := Lib.hid (show Bn ((w2.setCell ⟨B + 1 + 1, 0, none⟩ (.bool nr)).setCell ⟨B + 1 + 1, 1, none⟩ (.slice ro k rc)) nr ro k rc (x - y) from by
    rw [Int.sub_eq_add_neg]; exact ⟨hs2.neg, hs2.sl.only_box y2 (only_set2 _ _ _ _)⟩)
  have HBL := Lib.hid (b3.trans ((only_set2 w2 (B + 1 + 1) (.bool nr) (.slice ro k rc)).below (by omega)))
  clear b1 b2 b3 hw1 hw2 hs2 hg1 hst ha0 hb0
  go_wp2
  refine bodyPost_ret (v := .agg #[.bool nr, .slice ro k rc]) (by simp [results, Tryz.results129, go_sem, u0, u1]) rfl ⟨_, ro, k, rc, rfl, HRES.out, ?_⟩
  rw [Ext, HBe.out]; exact HBL.out

theorem sgn3_sub (x y : Int) : sgn3 (x - y) 0 = sgn3 x y := by unfold sgn3; split <;> split <;> (try split) <;> omega

set_option maxRecDepth 100000 in
set_option maxHeartbeats 4000000 in
theorem refCmp_any (nb mb : Bool) (ao : Option Addr) (n ca : Nat) (bo : Option Addr) (m cb : Nat) (x y : Int) (w : World) (ha : Bg w nb ao n ca x) (hb : Bg w mb bo m cb y) (hn : n ≤ 100000) (hm : m ≤ 100000) :
    Calls Tryz.prog 133 #[.agg #[.bool nb, .slice ao n ca], .agg #[.bool mb, .slice bo m cb]] w fun e w' => e = .returned (.int .i64 (sgn3 x y)) ∧ Ext w w' := by
  have hk : ∀ (w' : World) (nr : Bool) (ro : Option Addr) (k rc : Nat), Bn w' nr ro k rc (x - y) → k ≤ 1000000000 := by
    intro w' nr ro k rc h
    obtain ⟨⟨zs, hz, hx⟩, _⟩ := ha
    obtain ⟨⟨ys, hy, hyy⟩, _⟩ := hb
    have h1 := ok_raw (nb := nb) hz 100000 hn (by omega)
    have h2 := ok_raw (nb := mb) hy 100000 hm (by omega)
    obtain ⟨_, _, _, _, _, _, _, a1, _⟩ := h1
    obtain ⟨_, _, _, _, _, _, _, a2, _⟩ := h2
    simp only at a1 a2
    rw [← hx] at a1
    rw [← hyy] at a2
    have h3 := len_of_lt (abs_sub a1 a2)
    rw [h.sl.len] at h3
    omega
  have HK := Lib.hid hk; clear hk
  go_enter Tryz.func133, Tryz.ntmps133
  go_wp2_with fail
  obtain ⟨W, hW, hB, hbx, hby⟩ := box_pair w nb ao n ca mb bo m cb
  rw [← hW]
  clear hW
  have ha0 := ha.below hB
  have hb0 := hb.below hB
  have HB := Lib.hid hB
  generalize hBe : w.heap.size = B at *
  clear ha hb hB hBe
  have k0 := hbx.c0
  have k1' := hbx.c1
  have l0 := hby.c0
  have l1' := hby.c1
  go_wp2_with fail
  refine (refSub_any nb mb ao n ca bo m cb x y W ha0 hb0).mono ?_
  rintro e w1 ⟨nr, ro, k, rc, rfl, hs1, hw1⟩
  go_wp2_with fail
  refine (refSign_any nr ro k rc (x - y) _ (hs1.bg (HK.out _ _ _ _ _ hs1))).mono ?_
  rintro e w2 ⟨rfl, hw2⟩
  go_wp2
  go_ret
  exact ⟨by rw [sgn3_sub]; rfl, HB.out.trans (Ext.trans hw1 hw2)⟩

section
variable {W w : World} {L : List Ent} {u v : Value} {x y : Int} {N M : Nat} {c d : Bool}
theorem refSub_bag (h : St W w L) (h1 : ⟨u, x, N, c⟩ ∈ L) (h2 : ⟨v, y, M, d⟩ ∈ L) (hN : N ≤ 100000) (hM : M ≤ 100000) :
    Calls Tryz.prog 129 #[u, v] w fun e w' => ∃ r, e = .returned r ∧ St W w' (⟨r, x - y, max N M + 1, true⟩ :: L) := by
  obtain ⟨nb, ao, n, ca, rfl, b1, n1, a1, _⟩ := h.bag _ h1
  obtain ⟨mb, bo, m, cb, rfl, b2, n2, a2, _⟩ := h.bag _ h2
  exact (refSub_any nb mb ao n ca bo m cb x y w b1 b2).mono fun e w' ⟨nr, ro, k, cr, he, hr, hw⟩ => ⟨_, he, h.push hw (ok_bn hr (abs_sub a1 a2) (by omega))⟩
theorem refCmp_bag (h : St W w L) (h1 : ⟨u, x, N, c⟩ ∈ L) (h2 : ⟨v, y, M, d⟩ ∈ L) (hN : N ≤ 100000) (hM : M ≤ 100000) (s : Int) (hs : sgn3 x y = s) :
    Calls Tryz.prog 133 #[u, v] w fun e w' => e = .returned (.int .i64 s) ∧ St W w' L := by
  obtain ⟨nb, ao, n, ca, rfl, b1, n1, a1, _⟩ := h.bag _ h1
  obtain ⟨mb, bo, m, cb, rfl, b2, n2, a2, _⟩ := h.bag _ h2
  exact (refCmp_any nb mb ao n ca bo m cb x y w b1 b2 (by simp only at n1; omega) (by simp only at n2; omega)).mono fun e w' ⟨he, hw⟩ => ⟨by rw [he, hs], h.step hw⟩
theorem int_bag (h : St W w L) (h1 : ⟨u, x, N, c⟩ ∈ L) :
    Calls Tryz.prog 111 #[u] w fun e w' => e = .returned (.tuple #[.int .i64 (intOut x), .bool (fitsI x)]) ∧ St W w' L := by
  obtain ⟨nb, ao, n, ca, rfl, b1, n1, a1, _⟩ := h.bag _ h1
  exact (int_any nb ao n ca x w b1).mono fun e w' ⟨he, hw⟩ => ⟨he, h.step hw⟩
theorem refInt_bag (h : St W w L) (h1 : ⟨u, x, N, c⟩ ∈ L) :
    Calls Tryz.prog 191 #[u] w fun e w' => e = .returned (.tuple #[.int .i64 (intOut x), .bool (fitsI x)]) ∧ St W w' L := by
  obtain ⟨nb, ao, n, ca, rfl, b1, n1, a1, _⟩ := h.bag _ h1
  exact (refInt_any nb ao n ca x w b1).mono fun e w' ⟨he, hw⟩ => ⟨he, h.step hw⟩
theorem i64_lt {i : Int} (h : -9223372036854775808 ≤ i ∧ i ≤ 9223372036854775807) : i.natAbs < 4294967296 ^ 2 := by
  have : (4294967296 : Nat) ^ 2 = 18446744073709551616 := rfl
  omega
theorem fromInt_bag (h : St W w L) (i : Int) (hi : -9223372036854775808 ≤ i ∧ i ≤ 9223372036854775807) :
    Calls Tryz.prog 79 #[.int .i64 i] w fun e w' => ∃ r, e = .returned r ∧ St W w' (⟨r, i, 2, true⟩ :: L) :=
  (fromInt_any i w hi.1 hi.2).mono fun e w' ⟨nr, ro, k, cr, he, hr, hw⟩ => ⟨_, he, h.push hw (ok_bn hr (i64_lt hi) (by omega))⟩
theorem refFromInt_bag (h : St W w L) (i : Int) (hi : -9223372036854775808 ≤ i ∧ i ≤ 9223372036854775807) :
    Calls Tryz.prog 130 #[.int .i64 i] w fun e w' => ∃ r, e = .returned r ∧ St W w' (⟨r, i, 2, true⟩ :: L) :=
  (refFromInt_any i w hi.1 hi.2).mono fun e w' ⟨nr, ro, k, cr, he, hr, hw⟩ => ⟨_, he, h.push hw (ok_bn hr (i64_lt hi) (by omega))⟩
end
end Go.Proofs.YtjohpdobnedilaaGreatDoor
