import Derived.Test.YtlpclahlolhjfaaGreatDoorMoRlU13
import Derived.Test.YtlpclahlolhjfaaGreatDoorMoRlU8
import Derived.Test.YtlpclahlolhjfaaGreatDoorMoRlU2
import Derived.Laws.Bits64
import Derived.Test.YtlpclahlolhjfaaGreatDoorMoRlU11
import Derived.Test.YtlpclahlolhjfaaGreatDoorMoRlU12
import Derived.Test.YtlpclahlolhjfaaGreatDoorMoRlU0
namespace Go.Proofs.YtlpclahlolhjfaaGreatDoor
open Go.RowKit

theorem box_two (w : World) (lo hi : Int) (h0 : 0 ≤ lo ∧ lo < 4294967296) (h1 : 0 ≤ hi ∧ hi < 4294967296) :
    ∃ W, W = (w.alloc (.cells #[.bool false, .slice none 0 0] 27)).alloc (.cells #[.int .u32 lo, .int .u32 hi] 66) ∧ Below w.heap.size w W ∧ Box W w.heap.size false none 0 0 ∧ Sl W (some ⟨w.heap.size + 1, 0, none⟩) 2 2 [lo, hi] ∧ w.heap.size + 2 ≤ W.heap.size := by
  refine ⟨_, rfl, ((Below.refl _ w).alloc (Nat.le_refl _) _).alloc (by simp) _, ?_, ?_, by simp⟩
  · exact (Box.new w false none 0 0).below ((Below.refl _ _).alloc (Nat.le_refl _) _)
  · have hb : Blk ((w.alloc (.cells #[.bool false, .slice none 0 0] 27)).alloc (.cells #[.int .u32 lo, .int .u32 hi] 66)) (w.heap.size + 1) [lo, hi] := by
      have := heap_alloc_new (w.alloc (.cells #[.bool false, .slice none 0 0] 27)) (.cells #[.int .u32 lo, .int .u32 hi] 66)
      simpa [Blk] using this
    exact hb.sl (Wf.cons h0 (Wf.cons h1 Wf.nil)) rfl (by omega) (Nat.le_refl _)

set_option maxRecDepth 100000 in
set_option maxHeartbeats 1000000 in
theorem refFromInt_any (x : Int) (w : World) (h0 : -9223372036854775808 ≤ x) (h1 : x ≤ 9223372036854775807) :
    Calls Tryz.prog 18 #[.int .i64 x] w fun e w' => ∃ nr ro k cr, e = .returned (.agg #[.bool nr, .slice ro k cr]) ∧ Bn w' nr ro k cr x ∧ Ext w w' := by
  by_cases hx : x < 0
  · have hv0 : 0 ≤ -(x + 1) + 1 := by omega
    have hv1 : -(x + 1) + 1 ≤ 9223372036854775808 := by omega
    go_enter Tryz.func18, Tryz.ntmps18
    go_wp2_with fail
    obtain ⟨W, hW, hB, hbx, hsl, hz⟩ := box_two w ((-(x + 1) + 1) % 4294967296) ((-(x + 1) + 1) / 4294967296) (by omega) (by omega)
    rw [← hW]
    clear hW
    generalize hBe : w.heap.size = B at *
    have HBe := Lib.hid hBe; clear hBe
    have hnum : sgd true [(-(x + 1) + 1) % 4294967296, (-(x + 1) + 1) / 4294967296] = x := by
      unfold sgd
      rw [num_two]
      simp <;> omega
    refine (make1_any true _ _ _ _ W hsl).mono ?_
    rintro e w1 ⟨nr, ro, k, rc, rfl, hs1, hk, hw1⟩
    rw [hnum] at hs1
    have b1 := hbx.below hw1
    obtain ⟨h1, z1⟩ := bnext hB (by omega) hw1
    have q0 := b1.c0
    have q1 := b1.c1
    have q2 := b1.f 0
    have q3 := b1.f 1
    have hst := b1.stored nr ro k rc
    have u0 := hst.c0
    have u1 := hst.c1
    have HRES := Lib.hid (show Bn ((w1.setCell ⟨B, 0, none⟩ (.bool nr)).setCell ⟨B, 1, none⟩ (.slice ro k rc)) nr ro k rc x from ⟨hs1.neg, hs1.sl.only_box b1 (only_set2 _ _ _ _)⟩)
    have HBL := Lib.hid (h1.trans ((only_set2 w1 B (.bool nr) (.slice ro k rc)).below (Nat.le_refl B)))
    clear hnum hs1 h1 hw1 hB hbx hsl hst
    go_wp2
    refine bodyPost_ret (v := .agg #[.bool nr, .slice ro k rc]) (by simp [results, Tryz.results18, go_sem, u0, u1]) rfl ⟨_, ro, k, rc, rfl, HRES.out, ?_⟩
    rw [Ext, HBe.out]; exact HBL.out
  · have hv0 : 0 ≤ x := by omega
    have hv1 : x ≤ 9223372036854775808 := by omega
    go_enter Tryz.func18, Tryz.ntmps18
    go_wp2_with fail
    obtain ⟨W, hW, hB, hbx, hsl, hz⟩ := box_two w ((x) % 4294967296) ((x) / 4294967296) (by omega) (by omega)
    rw [← hW]
    clear hW
    generalize hBe : w.heap.size = B at *
    have HBe := Lib.hid hBe; clear hBe
    have hnum : sgd false [(x) % 4294967296, (x) / 4294967296] = x := by
      unfold sgd
      rw [num_two]
      simp <;> omega
    refine (make1_any false _ _ _ _ W hsl).mono ?_
    rintro e w1 ⟨nr, ro, k, rc, rfl, hs1, hk, hw1⟩
    rw [hnum] at hs1
    have b1 := hbx.below hw1
    obtain ⟨h1, z1⟩ := bnext hB (by omega) hw1
    have q0 := b1.c0
    have q1 := b1.c1
    have q2 := b1.f 0
    have q3 := b1.f 1
    have hst := b1.stored nr ro k rc
    have u0 := hst.c0
    have u1 := hst.c1
    have HRES := Lib.hid (show Bn ((w1.setCell ⟨B, 0, none⟩ (.bool nr)).setCell ⟨B, 1, none⟩ (.slice ro k rc)) nr ro k rc x from ⟨hs1.neg, hs1.sl.only_box b1 (only_set2 _ _ _ _)⟩)
    have HBL := Lib.hid (h1.trans ((only_set2 w1 B (.bool nr) (.slice ro k rc)).below (Nat.le_refl B)))
    clear hnum hs1 h1 hw1 hB hbx hsl hst
    go_wp2
    refine bodyPost_ret (v := .agg #[.bool nr, .slice ro k rc]) (by simp [results, Tryz.results18, go_sem, u0, u1]) rfl ⟨_, ro, k, rc, rfl, HRES.out, ?_⟩
    rw [Ext, HBe.out]; exact HBL.out
end Go.Proofs.YtlpclahlolhjfaaGreatDoor

namespace Go.Proofs.YtlpclahlolhjfaaGreatDoor
open Go.RowKit

set_option maxRecDepth 100000 in
set_option maxHeartbeats 1000000 in
/-- the closure: limb i, or zero -/
theorem limb_nat (ao : Option Addr) (n ca g i : Nat) (x : Int) (zs : List Int) (w : World) (hg : w.cell? ⟨g, 0, none⟩ = some (.slice ao n ca)) (hs : Sl w ao n ca zs) (hi : i ≤ 1099511627776) (hx : zs.getD i 0 = x) :
    Calls Tryz.prog 138 #[.int .i64 i, .pointer (some ⟨g, 0, none⟩)] w fun e w' => e = .returned (.int .u64 x) ∧ w = w' := by
  have hn := hs.big
  by_cases h : i < n
  · obtain ⟨b, off, rfl, hc⟩ := hs.cells (by rw [hs.len]; omega)
    have c1 := hc i (by rw [hs.len]; omega)
    rw [hx] at c1
    have hxr := hs.wf.getD i
    rw [hx] at hxr
    obtain ⟨x0, x1⟩ := hxr
    have HX := Lib.hid hx; clear hx hc
    go_enter Tryz.func138, Tryz.ntmps138
    go_wp2
    go_ret
    exact ⟨rfl, rfl⟩
  · have hx0 : x = 0 := by
      rw [← hx, List.getD, List.getElem?_eq_none (by rw [hs.len]; omega)]; rfl
    have HX := Lib.hid hx0; clear hx0 hx
    go_enter Tryz.func138, Tryz.ntmps138
    go_wp2
    go_ret
    exact ⟨by rw [HX.out]; rfl, rfl⟩

theorem or_comm64i (a b : Int) : bits BinOp.or IntKind.u64 a b = bits BinOp.or IntKind.u64 b a := by
  show IntKind.u64.wrap _ = IntKind.u64.wrap _
  rw [BitVec.or_comm]

theorem limb_in (ao : Option Addr) (n ca g : Nat) (i x : Int) (zs : List Int) (w : World) (hg : w.cell? ⟨g, 0, none⟩ = some (.slice ao n ca)) (hs : Sl w ao n ca zs) (h0 : 0 ≤ i) (hi : i ≤ 1099511627776) (hx : zs.getD i.toNat 0 = x) :
    Calls Tryz.prog 138 #[.int .i64 i, .pointer (some ⟨g, 0, none⟩)] w fun e w' => e = .returned (.int .u64 x) ∧ w = w' := by
  obtain ⟨k, rfl⟩ := Int.eq_ofNat_of_zero_le h0
  exact limb_nat ao n ca g k x zs w hg hs (by omega) (by simpa using hx)

set_option maxRecDepth 100000 in
set_option maxHeartbeats 1000000 in
theorem bits0_any (a : Nat) (ao : Option Addr) (n ca : Nat) (w : World) (hs : Sl w ao n ca (limbs a)) (ha : a < 18446744073709551616) :
    Calls Tryz.prog 120 #[.slice ao n ca, .int .i64 0] w fun e w' => e = .returned (.int .u64 a) ∧ Below w.heap.size w w' := by
  have l0 := limbs_at a 0
  have l1 := limbs_at a 1
  have l2 := limbs_at a 2
  have e0 : a / 4294967296 ^ 0 % 4294967296 = a % 4294967296 := by simp
  have e1 : a / 4294967296 ^ 1 % 4294967296 = a / 4294967296 := by rw [Nat.pow_one]; omega
  have e2 : a / 4294967296 ^ 2 % 4294967296 = 0 := by rw [Nat.div_eq_of_lt (by omega)]
  rw [e0] at l0; rw [e1] at l1; rw [e2] at l2
  obtain ⟨u, hu⟩ : ∃ u : Int, u = ((a % 4294967296 : Nat) : Int) := ⟨_, rfl⟩
  obtain ⟨v, hv⟩ : ∃ v : Int, v = ((a / 4294967296 : Nat) : Int) := ⟨_, rfl⟩
  rw [← hu] at l0; rw [← hv] at l1
  have u0 : 0 ≤ u := by omega
  have u1 : u < 4294967296 := by omega
  have v0 : 0 ≤ v := by omega
  have v1 : v < 4294967296 := by omega
  have hor : bits BinOp.or IntKind.u64 u (v * 4294967296) = (a : Int) := by
    rw [or_comm64i, or_hl v0 v1 u0 u1]; omega
  have hor0 : bits BinOp.or IntKind.u64 (a : Int) 0 = (a : Int) := by
    have := bits_or_u64_nat a 0 ha (by omega)
    simpa using this
  have hbd : (a : Int) < 18446744073709551616 := by omega
  have L0 := Lib.hid l0
  have L1 := Lib.hid l1
  have L2 := Lib.hid (show (limbs a).getD 2 0 = 0 from l2)
  clear l0 l1 l2 e0 e1 e2 hu hv ha
  have hgw : (w.alloc (.cells #[.slice ao n ca] 25)).cell? ⟨w.heap.size, 0, none⟩ = some (.slice ao n ca) := by go_simp
  have hB := (Below.refl w.heap.size w).alloc (Nat.le_refl _) (.cells #[.slice ao n ca] 25)
  have hs1 := hs.below hB
  go_enter Tryz.func120, Tryz.ntmps120
  go_wp2_with fail
  generalize w.alloc (.cells #[.slice ao n ca] 25) = W at *
  refine (limb_in ao n ca _ 0 u _ W hgw hs1 (by omega) (by omega) L0.out).mono ?_
  rintro e w' ⟨rfl, rfl⟩
  go_wp2_with fail
  refine (limb_in ao n ca _ 1 v _ W hgw hs1 (by omega) (by omega) L1.out).mono ?_
  rintro e w' ⟨rfl, rfl⟩
  go_wp2
  go_quiet ((go_at_call 138; exact quiet_left (limb_in ao n ca _ 2 0 _ _ (by exact hgw) (by exact hs1.drewN _) (by omega) (by omega) (by exact L2.out))))
  go_wp2
  go_ret
  exact ⟨rfl, below_drewN hB _⟩

end Go.Proofs.YtlpclahlolhjfaaGreatDoor

namespace Go.Proofs.YtlpclahlolhjfaaGreatDoor
open Go.RowKit

/-- does it fit into an int? -/
def fitsI (x : Int) : Bool := decide (-9223372036854775808 ≤ x ∧ x ≤ 9223372036854775807)
def intOut (x : Int) : Int := if -9223372036854775808 ≤ x ∧ x ≤ 9223372036854775807 then x else 0

theorem fits_yes {x : Int} (h : -9223372036854775808 ≤ x ∧ x ≤ 9223372036854775807) : fitsI x = true ∧ intOut x = x := ⟨decide_eq_true h, if_pos h⟩
theorem fits_no {x : Int} (h : ¬ (-9223372036854775808 ≤ x ∧ x ≤ 9223372036854775807)) : fitsI x = false ∧ intOut x = 0 := ⟨decide_eq_false h, if_neg h⟩

set_option maxRecDepth 100000 in
set_option maxHeartbeats 2000000 in
theorem int_any (nb : Bool) (ao : Option Addr) (n ca : Nat) (x : Int) (w : World) (h : Bg w nb ao n ca x) :
    Calls Tryz.prog 108 #[.agg #[.bool nb, .slice ao n ca]] w fun e w' => e = .returned (.tuple #[.int .i64 (intOut x), .bool (fitsI x)]) ∧ Ext w w' := by
  obtain ⟨⟨zs, hs, hx⟩, hsm⟩ := h
  have ea : (num zs).toNat = x.natAbs := by rw [hx, sgd_natAbs hs.wf]
  have hn0 := num_nonneg hs.wf
  have hxv : (if nb then -(x.natAbs : Int) else x.natAbs) = x := by
    rw [← ea, Int.toNat_of_nonneg hn0, hx]; rfl
  clear hx hn0
  have hB := (Below.refl w.heap.size w).alloc (Nat.le_refl _) (.cells #[.bool nb, .slice ao n ca] 27)
  have hbx := Box.new w nb ao n ca
  have hs1 := hs.below hB
  have htr := trim_sl ao n ca zs _ hs1
  rw [ea] at htr
  have HT := Lib.hid htr; clear htr ea
  have k2 := limbs_len_le x.natAbs 2
  generalize hxa : x.natAbs = a at *
  clear hxa
  have K2 := Lib.hid k2; clear k2
  obtain ⟨ro, hro⟩ : ∃ v : Value, v = .int .i64 (intOut x) := ⟨_, rfl⟩
  obtain ⟨rb, hrb⟩ : ∃ v : Value, v = .bool (fitsI x) := ⟨_, rfl⟩
  rw [← hro, ← hrb]
  have HRO := Lib.hid hro; clear hro
  have HRB := Lib.hid hrb; clear hrb
  have HXV := Lib.hid hxv; clear hxv
  by_cases ha64 : a < 18446744073709551616
  · have hkk : ∀ k, (limbs a).length = k → ((k : Int) > 2) = False := by
      intro k hk
      have := K2.out.2 (by omega)
      simp; omega
    have HKK := Lib.hid hkk; clear hkk
    go_enter Tryz.func108, Tryz.ntmps108
    go_wp2_with fail
    generalize w.alloc (.cells #[.bool nb, .slice ao n ca] 27) = W at *
    generalize hg : w.heap.size = B at *
    have HG := Lib.hid hg; clear hg
    have c0 := hbx.c0
    refine HT.out.mono ?_
    rintro e w1 ⟨k, rfl, hk, rfl⟩
    have hkg := HKK.out k hk.len
    have hkb := hk.big
    go_wp2_with fail
    refine (bits0_any a ao k ca _ hk ha64).mono ?_
    rintro e w2 ⟨rfl, hw2⟩
    have c2 := (hbx.below hw2).c0
    have hBlt := hbx.lt
    have hb2 := Lib.hid (hB.trans (hw2.mono (by omega)))
    clear hw2 hbx HT hs hs1 hk hB c0 hkg hkb
    by_cases h63 : a ≤ 9223372036854775807
    · cases nb with
      | true =>
        have hy := fits_yes (x := x) (by have := HXV.out; simp only [if_true] at this; omega)
        have HY := Lib.hid hy; clear hy
        go_wp2
        go_ret2
        refine ⟨?_, by rw [Ext, HG.out]; exact hb2.out⟩
        rw [HRO.out, HRB.out, HY.out.1, HY.out.2, ← HXV.out]; rfl
      | false =>
        have hy := fits_yes (x := x) (by have := HXV.out; simp only [Bool.false_eq_true, if_false] at this; omega)
        have HY := Lib.hid hy; clear hy
        go_wp2
        go_ret2
        refine ⟨?_, by rw [Ext, HG.out]; exact hb2.out⟩
        rw [HRO.out, HRB.out, HY.out.1, HY.out.2, ← HXV.out]; rfl
    · by_cases h64 : a = 9223372036854775808
      · subst h64
        cases nb with
        | true =>
          have hx : x = -9223372036854775808 := by have := HXV.out; simp only [if_true] at this; omega
          have HX := Lib.hid hx; clear hx
          go_wp2
          go_ret2
          refine ⟨?_, by rw [Ext, HG.out]; exact hb2.out⟩
          rw [HRO.out, HRB.out, HX.out]; rfl
        | false =>
          have hx : x = 9223372036854775808 := by have := HXV.out; simp only [Bool.false_eq_true, if_false] at this; omega
          have HX := Lib.hid hx; clear hx
          go_wp2
          go_ret2
          refine ⟨?_, by rw [Ext, HG.out]; exact hb2.out⟩
          rw [HRO.out, HRB.out, HX.out]; rfl
      · have hy := fits_no (x := x) (by have := HXV.out; cases nb <;> simp only [Bool.false_eq_true, if_false, if_true] at this <;> omega)
        have HY := Lib.hid hy; clear hy
        have hne : ((a : Int) == 9223372036854775808) = false := beq_eq_false_iff_ne.2 (by omega)
        go_wp2
        go_ret2
        refine ⟨?_, by rw [Ext, HG.out]; exact hb2.out⟩
        rw [HRO.out, HRB.out, HY.out.1, HY.out.2]; rfl
  · have hkk : ∀ k, (limbs a).length = k → 2 < k := by
      intro k hk
      have := K2.out
      rw [hk] at this
      have h9 : ¬ a < 4294967296 ^ 2 := by omega
      omega
    have HKK := Lib.hid hkk; clear hkk
    have hy := fits_no (x := x) (by have := HXV.out; cases nb <;> simp only [Bool.false_eq_true, if_false, if_true] at this <;> omega)
    have HY := Lib.hid hy; clear hy
    go_enter Tryz.func108, Tryz.ntmps108
    go_wp2_with fail
    generalize w.alloc (.cells #[.bool nb, .slice ao n ca] 27) = W at *
    generalize hg : w.heap.size = B at *
    have HG := Lib.hid hg; clear hg
    have c0 := hbx.c0
    refine HT.out.mono ?_
    rintro e w1 ⟨k, rfl, hk, rfl⟩
    have hkg := HKK.out k hk.len
    have hkb := hk.big
    have hB2 := Lib.hid hB; clear hB
    go_wp2
    go_ret2
    refine ⟨?_, by rw [Ext, HG.out]; exact hB2.out⟩
    rw [HRO.out, HRB.out, HY.out.1, HY.out.2]; rfl
end Go.Proofs.YtlpclahlolhjfaaGreatDoor

namespace Go.Proofs.YtlpclahlolhjfaaGreatDoor
open Go.RowKit

/-- how many bits a number has -/
def blen (a : Nat) : Nat := if a = 0 then 0 else Nat.log2 a + 1

theorem blen_of {a k : Nat} (h0 : 2 ^ k ≤ a) (h1 : a < 2 ^ (k + 1)) : blen a = k + 1 := by
  have ha : a ≠ 0 := by have := Nat.pos_of_ne_zero (show 2 ^ k ≠ 0 by simp); omega
  unfold blen
  rw [if_neg ha, (Nat.log2_eq_iff ha).2 ⟨h0, h1⟩]

theorem blen_top {a m : Nat} (hm : (limbs a).length = m + 1) : ((m : Int) * 32 + (Lib.bitLen ((limbs a).getD m 0).toNat : Int)) = (blen a : Int) := by
  have h1 : a < 4294967296 ^ (m + 1) := (limbs_len_le a (m + 1)).1 (by omega)
  have h2 : 4294967296 ^ m ≤ a := by
    rcases Nat.lt_or_ge a (4294967296 ^ m) with h | h
    · have := (limbs_len_le a m).2 h; omega
    · exact h
  have hpm : 0 < 4294967296 ^ m := Nat.pos_of_ne_zero (by simp)
  have hd1 : a / 4294967296 ^ m < 4294967296 := by
    rw [Nat.div_lt_iff_lt_mul hpm, Nat.mul_comm, ← Nat.pow_succ]; exact h1
  have hd0 : 0 < a / 4294967296 ^ m := Nat.div_pos h2 hpm
  have ht : (limbs a).getD m 0 = ((a / 4294967296 ^ m : Nat) : Int) := by
    rw [limbs_at, Nat.mod_eq_of_lt hd1]
  rw [ht, Int.toNat_natCast]
  have hdm := Nat.div_add_mod a (4294967296 ^ m)
  have hml := Nat.mod_lt a hpm
  generalize htt : a / 4294967296 ^ m = t at *
  generalize a % 4294967296 ^ m = r at *
  obtain ⟨l, e, l0, l1⟩ := bitLen_spec t (by omega) (by omega)
  have hp : (4294967296 : Nat) ^ m = 2 ^ (m * 32) := by rw [Nat.mul_comm, Nat.pow_mul]
  rw [e, blen_of (k := m * 32 + l)]
  · omega
  · rw [Nat.pow_add, ← hp]
    have := Nat.mul_le_mul_left (4294967296 ^ m) l0
    omega
  · rw [Nat.add_assoc, Nat.pow_add, ← hp]
    have := Nat.mul_le_mul_left (4294967296 ^ m) (show t + 1 ≤ 2 ^ (l + 1) from l1)
    rw [Nat.mul_add, Nat.mul_one] at this
    omega

theorem bitLen_32 {x : Nat} (h : x < 4294967296) : Lib.bitLen x ≤ 32 := by
  by_cases h0 : x = 0
  · rw [h0, bitLen_zero]; omega
  · obtain ⟨l, e, l0, _⟩ := bitLen_spec x h0 (by omega)
    rcases Nat.lt_or_ge l 32 with hl | hl
    · omega
    · have := Nat.pow_le_pow_right (show 0 < 2 by omega) hl
      omega

set_option maxRecDepth 100000 in
set_option maxHeartbeats 1000000 in
theorem bitLen_any (a : Nat) (ao : Option Addr) (n ca : Nat) (w : World) (h : Sl w ao n ca (limbs a)) (hn : n ≤ 1000000000) :
    Calls Tryz.prog 114 #[.slice ao n ca] w fun e w' => e = .returned (.int .i64 (blen a)) ∧ w = w' := by
  rcases n with _ | m
  · have h0 : a = 0 := limbs_inj ((List.eq_nil_of_length_eq_zero h.len).trans limbs_zero.symm)
    go_enter Tryz.func114, Tryz.ntmps114
    go_wp2
    go_ret
    exact ⟨by rw [h0]; rfl, rfl⟩
  · have hb := blen_top h.len
    obtain ⟨b, off, rfl, hc⟩ := h.cells (by rw [h.len]; omega)
    have c1 := hc m (by rw [h.len]; omega)
    clear hc
    have hxr := (Wf.limbs a).getD m
    obtain ⟨x, hx⟩ : ∃ x, (limbs a).getD m 0 = x := ⟨_, rfl⟩
    rw [hx] at c1 hxr hb
    obtain ⟨x0, x1⟩ := hxr
    clear hx
    have HB := Lib.hid hb; clear hb
    have em : ((m : Int) + 1 == 0) = false := by apply beq_eq_false_iff_ne.2; omega
    have hl : (Lib.bitLen x.toNat : Int) ≤ 32 := by
      have := bitLen_32 (x := x.toNat) (by omega)
      omega
    go_enter Tryz.func114, Tryz.ntmps114
    go_wp2_with fail
    refine (Tryz.bits_Len32 x w x0 (by omega)).mono ?_
    rintro e w2 ⟨rfl, rfl⟩
    go_wp2
    go_ret
    exact ⟨by rw [← HB.out]; rfl, rfl⟩
end Go.Proofs.YtlpclahlolhjfaaGreatDoor

namespace Go.Proofs.YtlpclahlolhjfaaGreatDoor

theorem sgn3_nonneg {x : Int} (h : 0 ≤ x) : 0 ≤ sgn3 x 0 := by unfold sgn3; split <;> (try split) <;> omega
end Go.Proofs.YtlpclahlolhjfaaGreatDoor
