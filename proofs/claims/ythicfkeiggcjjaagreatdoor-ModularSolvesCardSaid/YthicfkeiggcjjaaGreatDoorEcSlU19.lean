import Derived.Test.YthicfkeiggcjjaaGreatDoorEcSlU2
import Derived.Test.YthicfkeiggcjjaaGreatDoorEcSlU7
import Derived.Laws.Bits64
namespace Go.Proofs.YthicfkeiggcjjaaGreatDoor
open Go.RowKit

set_option maxRecDepth 100000 in
set_option maxHeartbeats 1000000 in
/-- the closure: limb i, or zero -/
theorem limb_nat (ao : Option Addr) (n ca g i : Nat) (x : Int) (zs : List Int) (w : World) (hg : w.cell? ⟨g, 0, none⟩ = some (.slice ao n ca)) (hs : Sl w ao n ca zs) (hi : i ≤ 1099511627776) (hx : zs.getD i 0 = x) :
    Calls Tryz.prog 118 #[.int .i64 i, .pointer (some ⟨g, 0, none⟩)] w fun e w' => e = .returned (.int .u64 x) ∧ w = w' := by
  have hn := hs.big
  by_cases h : i < n
  · obtain ⟨b, off, rfl, hc⟩ := hs.cells (by rw [hs.len]; omega)
    have c1 := hc i (by rw [hs.len]; omega)
    rw [hx] at c1
    have hxr := hs.wf.getD i
    rw [hx] at hxr
    obtain ⟨x0, x1⟩ := hxr
    have HX := Lib.hid hx; clear hx hc
    go_enter Tryz.func118, Tryz.ntmps118
    go_wp2
    go_ret
    exact ⟨rfl, rfl⟩
  · have hx0 : x = 0 := by
      rw [← hx, List.getD, List.getElem?_eq_none (by rw [hs.len]; omega)]; rfl
    have HX := Lib.hid hx0; clear hx0 hx
    go_enter Tryz.func118, Tryz.ntmps118
    go_wp2
    go_ret
    exact ⟨by rw [HX.out]; rfl, rfl⟩

theorem or_comm64i (a b : Int) : bits BinOp.or IntKind.u64 a b = bits BinOp.or IntKind.u64 b a := by
  show IntKind.u64.wrap _ = IntKind.u64.wrap _
  rw [BitVec.or_comm]

theorem limb_in (ao : Option Addr) (n ca g : Nat) (i x : Int) (zs : List Int) (w : World) (hg : w.cell? ⟨g, 0, none⟩ = some (.slice ao n ca)) (hs : Sl w ao n ca zs) (h0 : 0 ≤ i) (hi : i ≤ 1099511627776) (hx : zs.getD i.toNat 0 = x) :
    Calls Tryz.prog 118 #[.int .i64 i, .pointer (some ⟨g, 0, none⟩)] w fun e w' => e = .returned (.int .u64 x) ∧ w = w' := by
  obtain ⟨k, rfl⟩ := Int.eq_ofNat_of_zero_le h0
  exact limb_nat ao n ca g k x zs w hg hs (by omega) (by simpa using hx)

set_option maxRecDepth 100000 in
set_option maxHeartbeats 1000000 in
theorem bits0_any (a : Nat) (ao : Option Addr) (n ca : Nat) (w : World) (hs : Sl w ao n ca (limbs a)) (ha : a < 18446744073709551616) :
    Calls Tryz.prog 106 #[.slice ao n ca, .int .i64 0] w fun e w' => e = .returned (.int .u64 a) ∧ Below w.heap.size w w' := by
  have l0 := limbs_at a 0
  have l1 := limbs_at a 1
  have l2 := limbs_at a 2
  have e0 : a / 4294967296 ^ 0 % 4294967296 = a % 4294967296 := by simp
  have e1 : a / 4294967296 ^ 1 % 4294967296 = a / 4294967296 := by rw [Nat.pow_one]; omega
  have e2 : a / 4294967296 ^ 2 % 4294967296 = 0 := by rw [Nat.div_eq_of_lt (by omega)]
  rw [e0] at l0; rw [e1] at l1; rw [e2] at l2
  obtain ⟨u, hu⟩ : ∃ u : Int, u = ((a % 4294967296 : Nat) : Int) := ⟨_, rfl⟩
  obtain ⟨v, hv⟩ : ∃ v : Int, v = ((a / 4294967296 : Nat) : Int) := ⟨_, rfl⟩
  rw [← hu] at l0; rw [← hv] at l1
  have u0 : 0 ≤ u := by omega
  have u1 : u < 4294967296 := by omega
  have v0 : 0 ≤ v := by omega
  have v1 : v < 4294967296 := by omega
  have hor : bits BinOp.or IntKind.u64 u (v * 4294967296) = (a : Int) := by
    rw [or_comm64i, or_hl v0 v1 u0 u1]; omega
  have hor0 : bits BinOp.or IntKind.u64 (a : Int) 0 = (a : Int) := by
    have := bits_or_u64_nat a 0 ha (by omega)
    simpa using this
  have hbd : (a : Int) < 18446744073709551616 := by omega
  have L0 := Lib.hid l0
  have L1 := Lib.hid l1
  have L2 := Lib.hid (show (limbs a).getD 2 0 = 0 from l2)
  clear l0 l1 l2 e0 e1 e2 hu hv ha
  have hgw : (w.alloc (.cells #[.slice ao n ca] 50)).cell? ⟨w.heap.size, 0, none⟩ = some (.slice ao n ca) := by go_simp
  have hB := (Below.refl w.heap.size w).alloc (Nat.le_refl _) (.cells #[.slice ao n ca] 50)
  have hs1 := hs.below hB
  go_enter Tryz.func106, Tryz.ntmps106
  go_wp2_with fail
  generalize w.alloc (.cells #[.slice ao n ca] 50) = W at *
  refine (limb_in ao n ca _ 0 u _ W hgw hs1 (by omega) (by omega) L0.out).mono ?_
  rintro e w' ⟨rfl, rfl⟩
  go_wp2_with fail
  refine (limb_in ao n ca _ 1 v _ W hgw hs1 (by omega) (by omega) L1.out).mono ?_
  rintro e w' ⟨rfl, rfl⟩
  go_wp2
  go_quiet ((go_at_call 118; exact quiet_left (limb_in ao n ca _ 2 0 _ _ (by exact hgw) (by exact hs1.drewN _) (by omega) (by omega) (by exact L2.out))))
  go_wp2
  go_ret
  exact ⟨rfl, below_drewN hB _⟩

end Go.Proofs.YthicfkeiggcjjaaGreatDoor

namespace Go.Proofs.YthicfkeiggcjjaaGreatDoor
open Go.RowKit

/-- does it fit into an int? -/
def fitsI (x : Int) : Bool := decide (-9223372036854775808 ≤ x ∧ x ≤ 9223372036854775807)
def intOut (x : Int) : Int := if -9223372036854775808 ≤ x ∧ x ≤ 9223372036854775807 then x else 0

theorem fits_yes {x : Int} (h : -9223372036854775808 ≤ x ∧ x ≤ 9223372036854775807) : fitsI x = true ∧ intOut x = x := ⟨decide_eq_true h, if_pos h⟩
theorem fits_no {x : Int} (h : ¬ (-9223372036854775808 ≤ x ∧ x ≤ 9223372036854775807)) : fitsI x = false ∧ intOut x = 0 := ⟨decide_eq_false h, if_neg h⟩

set_option maxRecDepth 100000 in
set_option maxHeartbeats 2000000 in
theorem int_any (nb : Bool) (ao : Option Addr) (n ca : Nat) (x : Int) (w : World) (h : Bg w nb ao n ca x) :
    Calls Tryz.prog 85 #[.agg #[.bool nb, .slice ao n ca]] w fun e w' => e = .returned (.tuple #[.int .i64 (intOut x), .bool (fitsI x)]) ∧ Ext w w' := by
  obtain ⟨⟨zs, hs, hx⟩, hsm⟩ := h
  have ea : (num zs).toNat = x.natAbs := by rw [hx, sgd_natAbs hs.wf]
  have hn0 := num_nonneg hs.wf
  have hxv : (if nb then -(x.natAbs : Int) else x.natAbs) = x := by
    rw [← ea, Int.toNat_of_nonneg hn0, hx]; rfl
  clear hx hn0
  have hB := (Below.refl w.heap.size w).alloc (Nat.le_refl _) (.cells #[.bool nb, .slice ao n ca] 52)
  have hbx := Box.new w nb ao n ca
  have hs1 := hs.below hB
  have htr := trim_sl ao n ca zs _ hs1
  rw [ea] at htr
  have HT := Lib.hid htr; clear htr ea
  have k2 := limbs_len_le x.natAbs 2
  generalize hxa : x.natAbs = a at *
  clear hxa
  have K2 := Lib.hid k2; clear k2
  obtain ⟨ro, hro⟩ : ∃ v : Value, v = .int .i64 (intOut x) := ⟨_, rfl⟩
  obtain ⟨rb, hrb⟩ : ∃ v : Value, v = .bool (fitsI x) := ⟨_, rfl⟩
  rw [← hro, ← hrb]
  have HRO := Lib.hid hro; clear hro
  have HRB := Lib.hid hrb; clear hrb
  have HXV := Lib.hid hxv; clear hxv
  by_cases ha64 : a < 18446744073709551616
  · have hkk : ∀ k, (limbs a).length = k → ((k : Int) > 2) = False := by
      intro k hk
      have := K2.out.2 (by omega)
      simp; omega
    have HKK := Lib.hid hkk; clear hkk
    go_enter Tryz.func85, Tryz.ntmps85
    go_wp2_with fail
    generalize w.alloc (.cells #[.bool nb, .slice ao n ca] 52) = W at *
    generalize hg : w.heap.size = B at *
    have HG := Lib.hid hg; clear hg
    have c0 := hbx.c0
    refine HT.out.mono ?_
    rintro e w1 ⟨k, rfl, hk, rfl⟩
    have hkg := HKK.out k hk.len
    have hkb := hk.big
    go_wp2_with fail
    refine (bits0_any a ao k ca _ hk ha64).mono ?_
    rintro e w2 ⟨rfl, hw2⟩
    have c2 := (hbx.below hw2).c0
    have hBlt := hbx.lt
    have hb2 := Lib.hid (hB.trans (hw2.mono (by omega)))
    clear hw2 hbx HT hs hs1 hk hB c0 hkg hkb
    by_cases h63 : a ≤ 9223372036854775807
    · cases nb with
      | true =>
        have hy := fits_yes (x := x) (by have := HXV.out; simp only [if_true] at this; omega)
        have HY := Lib.hid hy; clear hy
        go_wp2
        go_ret2
        refine ⟨?_, by rw [Ext, HG.out]; exact hb2.out⟩
        rw [HRO.out, HRB.out, HY.out.1, HY.out.2, ← HXV.out]; rfl
      | false =>
        have hy := fits_yes (x := x) (by have := HXV.out; simp only [Bool.false_eq_true, if_false] at this; omega)
        have HY := Lib.hid hy; clear hy
        go_wp2
        go_ret2
        refine ⟨?_, by rw [Ext, HG.out]; exact hb2.out⟩
        rw [HRO.out, HRB.out, HY.out.1, HY.out.2, ← HXV.out]; rfl
    · by_cases h64 : a = 9223372036854775808
      · subst h64
        cases nb with
        | true =>
          have hx : x = -9223372036854775808 := by have := HXV.out; simp only [if_true] at this; omega
          have HX := Lib.hid hx; clear hx
          go_wp2
          go_ret2
          refine ⟨?_, by rw [Ext, HG.out]; exact hb2.out⟩
          rw [HRO.out, HRB.out, HX.out]; rfl
        | false =>
          have hx : x = 9223372036854775808 := by have := HXV.out; simp only [Bool.false_eq_true, if_false] at this; omega
          have HX := Lib.hid hx; clear hx
          go_wp2
          go_ret2
          refine ⟨?_, by rw [Ext, HG.out]; exact hb2.out⟩
          rw [HRO.out, HRB.out, HX.out]; rfl
      · have hy := fits_no (x := x) (by have := HXV.out; cases nb <;> simp only [Bool.false_eq_true, if_false, if_true] at this <;> omega)
        have HY := Lib.hid hy; clear hy
        have hne : ((a : Int) == 9223372036854775808) = false := beq_eq_false_iff_ne.2 (by omega)
        go_wp2
        go_ret2
        refine ⟨?_, by rw [Ext, HG.out]; exact hb2.out⟩
        rw [HRO.out, HRB.out, HY.out.1, HY.out.2]; rfl
  · have hkk : ∀ k, (limbs a).length = k → 2 < k := by
      intro k hk
      have := K2.out
      rw [hk] at this
      have h9 : ¬ a < 4294967296 ^ 2 := by omega
      omega
    have HKK := Lib.hid hkk; clear hkk
    have hy := fits_no (x := x) (by have := HXV.out; cases nb <;> simp only [Bool.false_eq_true, if_false, if_true] at this <;> omega)
    have HY := Lib.hid hy; clear hy
    go_enter Tryz.func85, Tryz.ntmps85
    go_wp2_with fail
    generalize w.alloc (.cells #[.bool nb, .slice ao n ca] 52) = W at *
    generalize hg : w.heap.size = B at *
    have HG := Lib.hid hg; clear hg
    have c0 := hbx.c0
    refine HT.out.mono ?_
    rintro e w1 ⟨k, rfl, hk, rfl⟩
    have hkg := HKK.out k hk.len
    have hkb := hk.big
    have hB2 := Lib.hid hB; clear hB
    go_wp2
    go_ret2
    refine ⟨?_, by rw [Ext, HG.out]; exact hB2.out⟩
    rw [HRO.out, HRB.out, HY.out.1, HY.out.2]; rfl
end Go.Proofs.YthicfkeiggcjjaaGreatDoor
