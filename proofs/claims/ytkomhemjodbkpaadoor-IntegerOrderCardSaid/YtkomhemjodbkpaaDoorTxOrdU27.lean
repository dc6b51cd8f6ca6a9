import Derived.Test.YtkomhemjodbkpaaDoorTxOrdU26
import Derived.Test.YtkomhemjodbkpaaDoorTxOrdU16
namespace Go.Proofs.YtkomhemjodbkpaaDoor
open Go.RowKit

/-- does it fit into an int? -/
def fitsI (x : Int) : Bool := decide (-9223372036854775808 ≤ x ∧ x ≤ 9223372036854775807)
def intOut (x : Int) : Int := if -9223372036854775808 ≤ x ∧ x ≤ 9223372036854775807 then x else 0

theorem fits_yes {x : Int} (h : -9223372036854775808 ≤ x ∧ x ≤ 9223372036854775807) : fitsI x = true ∧ intOut x = x := ⟨decide_eq_true h, if_pos h⟩
theorem fits_no {x : Int} (h : ¬ (-9223372036854775808 ≤ x ∧ x ≤ 9223372036854775807)) : fitsI x = false ∧ intOut x = 0 := ⟨decide_eq_false h, if_neg h⟩

set_option maxRecDepth 100000 in
set_option maxHeartbeats 2000000 in
theorem int_any (nb : Bool) (ao : Option Addr) (n ca : Nat) (x : Int) (w : World) (h : Bg w nb ao n ca x) :
    Calls Tryd.prog 16 #[.agg #[.bool nb, .slice ao n ca]] w fun e w' => e = .returned (.tuple #[.int .i64 (intOut x), .bool (fitsI x)]) ∧ Ext w w' := by
  obtain ⟨⟨zs, hs, hx⟩, hsm⟩ := h
  have ea : (num zs).toNat = x.natAbs := by rw [hx, sgd_natAbs hs.wf]
  have hn0 := num_nonneg hs.wf
  have hxv : (if nb then -(x.natAbs : Int) else x.natAbs) = x := by
    rw [← ea, Int.toNat_of_nonneg hn0, hx]; rfl
  clear hx hn0
  have hB := (Below.refl w.heap.size w).alloc (Nat.le_refl _) (.cells #[.bool nb, .slice ao n ca] 24)
  have hbx := Box.new w nb ao n ca
  have hs1 := hs.below hB
  have htr := trim_sl ao n ca zs _ hs1
  rw [ea] at htr
  have HT := Lib.hid htr; clear htr ea
  have k2 := limbs_len_le x.natAbs 2
  generalize hxa : x.natAbs = a at *
  clear hxa
  have K2 := Lib.hid k2; clear k2
  obtain ⟨ro, hro⟩ : ∃ v : Value, v = .int .i64 (intOut x) := ⟨_, rfl⟩
  obtain ⟨rb, hrb⟩ : ∃ v : Value, v = .bool (fitsI x) := ⟨_, rfl⟩
  rw [← hro, ← hrb]
  have HRO := Lib.hid hro; clear hro
  have HRB := Lib.hid hrb; clear hrb
  have HXV := Lib.hid hxv; clear hxv
  by_cases ha64 : a < 18446744073709551616
  · have hkk : ∀ k, (limbs a).length = k → ((k : Int) > 2) = False := by
      intro k hk
      have := K2.out.2 (by omega)
      simp; omega
    have HKK := Lib.hid hkk; clear hkk
    go_enter Tryd.func16, Tryd.ntmps16
    go_wp2_with fail
    generalize w.alloc (.cells #[.bool nb, .slice ao n ca] 24) = W at *
    generalize hg : w.heap.size = B at *
    have HG := Lib.hid hg; clear hg
    have c0 := hbx.c0
    refine HT.out.mono ?_
    rintro e w1 ⟨k, rfl, hk, rfl⟩
    have hkg := HKK.out k hk.len
    have hkb := hk.big
    go_wp2_with fail
    refine (bits0_any a ao k ca _ hk ha64).mono ?_
    rintro e w2 ⟨rfl, hw2⟩
    have c2 := (hbx.below hw2).c0
    have hBlt := hbx.lt
    have hb2 := Lib.hid (hB.trans (hw2.mono (by omega)))
    clear hw2 hbx HT hs hs1 hk hB c0 hkg hkb
    by_cases h63 : a ≤ 9223372036854775807
    · cases nb with
      | true =>
        have hy := fits_yes (x := x) (by have := HXV.out; simp only [if_true] at this; omega)
        have HY := Lib.hid hy; clear hy
        go_wp2
        go_ret2
        refine ⟨?_, by rw [Ext, HG.out]; exact hb2.out⟩
        rw [HRO.out, HRB.out, HY.out.1, HY.out.2, ← HXV.out]; rfl
      | false =>
        have hy := fits_yes (x := x) (by have := HXV.out; simp only [Bool.false_eq_true, if_false] at this; omega)
        have HY := Lib.hid hy; clear hy
        go_wp2
        go_ret2
        refine ⟨?_, by rw [Ext, HG.out]; exact hb2.out⟩
        rw [HRO.out, HRB.out, HY.out.1, HY.out.2, ← HXV.out]; rfl
    · by_cases h64 : a = 9223372036854775808
      · subst h64
        cases nb with
        | true =>
          have hx : x = -9223372036854775808 := by have := HXV.out; simp only [if_true] at this; omega
          have HX := Lib.hid hx; clear hx
          go_wp2
          go_ret2
          refine ⟨?_, by rw [Ext, HG.out]; exact hb2.out⟩
          rw [HRO.out, HRB.out, HX.out]; rfl
        | false =>
          have hx : x = 9223372036854775808 := by have := HXV.out; simp only [Bool.false_eq_true, if_false] at this; omega
          have HX := Lib.hid hx; clear hx
          go_wp2
          go_ret2
          refine ⟨?_, by rw [Ext, HG.out]; exact hb2.out⟩
          rw [HRO.out, HRB.out, HX.out]; rfl
      · have hy := fits_no (x := x) (by have := HXV.out; cases nb <;> simp only [Bool.false_eq_true, if_false, if_true] at this <;> omega)
        have HY := Lib.hid hy; clear hy
        have hne : ((a : Int) == 9223372036854775808) = false := beq_eq_false_iff_ne.2 (by omega)
        go_wp2
        go_ret2
        refine ⟨?_, by rw [Ext, HG.out]; exact hb2.out⟩
        rw [HRO.out, HRB.out, HY.out.1, HY.out.2]; rfl
  · have hkk : ∀ k, (limbs a).length = k → 2 < k := by
      intro k hk
      have := K2.out
      rw [hk] at this
      have h9 : ¬ a < 4294967296 ^ 2 := by omega
      omega
    have HKK := Lib.hid hkk; clear hkk
    have hy := fits_no (x := x) (by have := HXV.out; cases nb <;> simp only [Bool.false_eq_true, if_false, if_true] at this <;> omega)
    have HY := Lib.hid hy; clear hy
    go_enter Tryd.func16, Tryd.ntmps16
    go_wp2_with fail
    generalize w.alloc (.cells #[.bool nb, .slice ao n ca] 24) = W at *
    generalize hg : w.heap.size = B at *
    have HG := Lib.hid hg; clear hg
    have c0 := hbx.c0
    refine HT.out.mono ?_
    rintro e w1 ⟨k, rfl, hk, rfl⟩
    have hkg := HKK.out k hk.len
    have hkb := hk.big
    have hB2 := Lib.hid hB; clear hB
    go_wp2
    go_ret2
    refine ⟨?_, by rw [Ext, HG.out]; exact hB2.out⟩
    rw [HRO.out, HRB.out, HY.out.1, HY.out.2]; rfl
end Go.Proofs.YtkomhemjodbkpaaDoor
