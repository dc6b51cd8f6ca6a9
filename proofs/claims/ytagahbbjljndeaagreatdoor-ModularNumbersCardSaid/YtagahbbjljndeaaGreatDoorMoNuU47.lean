import Derived.Test.YtagahbbjljndeaaGreatDoorMoNuU39
import Derived.Test.YtagahbbjljndeaaGreatDoorMoNuU41
import Derived.Test.YtagahbbjljndeaaGreatDoorMoNuU46
import Derived.Test.YtagahbbjljndeaaGreatDoorMoNuU6
namespace Go.Proofs.YtagahbbjljndeaaGreatDoor
open Go Go.RowKit

theorem mr2 : mr 2 = true := by decide +kernel
theorem mr9 : mr 9 = false := by decide +kernel
theorem inv37 : invZ (3 % 7) 7 = 5 := by decide +kernel
theorem mod23 : modE [2, 3] = 0 := by decide +kernel
theorem crt23 : crtN [2, 3] = 6 ∧ crtC (crtFin [1, 2] [2, 3]) 6 = -1 := by decide +kernel
theorem tex_m1 : texI (-1) = [45, 49] := by decide +kernel
theorem tex_6 : texI 6 = [54] := by decide +kernel
theorem vblk_ns {w : World} {g : Nat} {x y : Int} (h : VBlk w g #[.int .i64 x, .int .i64 y] 3) : Ns w (some ⟨g, 0, none⟩) 2 2 [x, y] := ⟨rfl, Nat.le_refl _, fun _ => ⟨g, 0, rfl, fun j hj => by
  rw [Nat.zero_add, h.c j]
  match j, hj with
  | 0, _ => rfl
  | 1, _ => rfl⟩⟩

set_option maxRecDepth 100000 in
set_option maxHeartbeats 8000000 in
theorem mawake_any (w : World) (hT : Table64 w) (hP : Pow10 w) : Calls Tryz.prog 8 #[] w fun e w' => e = .returned (.bool true) ∧ Ext w w' := by
  have CI := Lib.hid (inv_yes 3 7 w hT mr7 (by decide))
  rw [inv37] at CI
  go_enter Tryz.func8, Tryz.ntmps8
  go_wp2_with fail
  refine CI.out.mono ?_
  rintro e w1 ⟨rfl, rfl⟩
  clear CI
  go_wp2_with fail
  obtain ⟨g, hg⟩ : ∃ g, w.heap.size = g := ⟨_, rfl⟩
  obtain ⟨V, hV⟩ : ∃ V, (w.alloc (.cells #[.int .i64 1, .int .i64 2] 3)).alloc (.cells #[.slice (some ⟨w.heap.size, 0, none⟩) 2 2] 37) = V := ⟨_, rfl⟩
  have hEV : Ext w V := by rw [← hV]; exact ((Below.refl _ w).alloc (Nat.le_refl _) _).alloc (by simp) _
  have n1 : VBlk V w.heap.size #[.int .i64 1, .int .i64 2] 3 := by
    rw [← hV]; exact (VBlk.new w _ _).below ((Below.refl _ _).alloc (Nat.le_refl _) _)
  have n2 : VBlk V (w.heap.size + 1) #[.slice (some ⟨w.heap.size, 0, none⟩) 2 2] 37 := by
    rw [← hV]
    have := VBlk.new (w.alloc (.cells #[.int .i64 1, .int .i64 2] 3)) #[.slice (some ⟨w.heap.size, 0, none⟩) 2 2] 37
    simpa using this
  rw [hV]
  have HT := Lib.hid hT
  have HP := Lib.hid hP
  refine (kernel_12 (w.heap.size + 1) w.heap.size V (n2.c 0) (n1.c 0) (n1.c 1) (hT.below hEV)).mono ?_
  rintro r w2 ⟨v, rfl, hk, hE2⟩
  have HE := Lib.hid (hEV.trans hE2)
  clear n1 n2 hV hEV hE2 hT hP hg
  go_wp2_with fail
  obtain ⟨V2, hV2⟩ : ∃ V, (w2.alloc (.cells #[.int .i64 1, .int .i64 2] 3)).alloc (.cells #[.int .i64 2, .int .i64 3] 3) = V := ⟨_, rfl⟩
  have hE2 : Ext w2 V2 := by rw [← hV2]; exact ((Below.refl _ w2).alloc (Nat.le_refl _) _).alloc (by simp) _
  have m1 : VBlk V2 w2.heap.size #[.int .i64 1, .int .i64 2] 3 := by
    rw [← hV2]; exact (VBlk.new w2 _ _).below ((Below.refl _ _).alloc (Nat.le_refl _) _)
  have m2 : VBlk V2 (w2.heap.size + 1) #[.int .i64 2, .int .i64 3] 3 := by
    rw [← hV2]
    have := VBlk.new (w2.alloc (.cells #[.int .i64 1, .int .i64 2] 3)) #[.int .i64 2, .int .i64 3] 3
    simpa using this
  rw [hV2]
  have hk2 := hk.below hE2
  have HE2 := Lib.hid (HE.out.trans hE2)
  clear hk hE2 hV2
  refine (combine_yes (some ⟨w2.heap.size, 0, none⟩) (some ⟨w2.heap.size + 1, 0, none⟩) 2 2 2 [1, 2] [2, 3] V2 (vblk_ns m1) (vblk_ns m2) (by omega) (by intro p hp; simp at hp; omega) (HT.out.below HE2.out) mod23).mono ?_
  rintro r w3 ⟨an, aa, ak, ac, bn, ba, bk, bc, rfl, hX, hN, hE3⟩
  rw [crt23.1, crt23.2] at hX
  rw [crt23.1] at hN
  have hk3 := hk2.below hE3
  have HE3 := Lib.hid (HE2.out.trans hE3)
  clear m1 m2 hk2 hE3
  go_upto_region 4 with fail
  obtain ⟨V4, hV4, hE4, hx, hy⟩ := box_pair w3 an aa ak ac bn ba bk bc
  rw [← hV4]
  have hX4 := hX.below hE4
  have hN4 := hN.below hE4
  have hk4 := hk3.below hE4
  have HE4 := Lib.hid (HE3.out.trans hE4)
  clear hV4 hX hN hk3 hE4
  generalize w3.heap.size = D at *
  have x0 := hx.c0
  have x1 := hx.c1
  have y0 := hy.c0
  have y1 := hy.c1
  go_wp2_with fail
  have hE5 : Ext V4 (V4.alloc (.cells #[.int .i64 5, .int .i64 1] 3)) := (Below.refl _ V4).alloc (Nat.le_refl _) _
  have m5 := VBlk.new V4 #[.int .i64 5, .int .i64 1] 3
  have CN := (ints_any (some ⟨v, 0, none⟩) (some ⟨V4.heap.size, 0, none⟩) 2 2 2 2 [5, 1] [5, 1] _ (vblk_ns (hk4.below hE5)) (vblk_ns m5) (by omega))
  rw [show decide ([(5 : Int), 1] = [5, 1]) = true from by decide] at CN
  refine CN.mono ?_
  rintro r w5 ⟨rfl, h5⟩
  have hE5 := Ext.trans hE5 h5
  have hx := hx.below hE5
  have hy := hy.below hE5
  have hX := hX4.below hE5
  have hN := hN4.below hE5
  have HE5 := Lib.hid (HE4.out.trans hE5)
  clear x0 x1 y0 y1 CN m5 hX4 hN4 hk4 h5 hE5
  have lx := few_limbs hX (k := 1) (by decide)
  have ln := few_limbs hN (k := 1) (by decide)
  obtain ⟨t1, ht1⟩ : ∃ t : ByteArray, (⟨(texI (-1)).toArray⟩ : ByteArray) = t := ⟨_, rfl⟩
  obtain ⟨t2, ht2⟩ : ∃ t : ByteArray, (⟨(texI 6).toArray⟩ : ByteArray) = t := ⟨_, rfl⟩
  have CF1 := Lib.hid (fun wx (h : Ext w5 wx) => format_any an aa ak ac (-1) wx ((hX.bg (by omega)).below h) (by omega) (HP.out.below (HE5.out.trans h)) t1 ht1)
  have CF2 := Lib.hid (fun wx (h : Ext w5 wx) => format_any bn ba bk bc 6 wx ((hN.bg (by omega)).below h) (by omega) (HP.out.below (HE5.out.trans h)) t2 ht2)
  rw [tex_m1] at ht1
  rw [tex_6] at ht2
  subst ht1 ht2
  have x0 := hx.c0
  have x1 := hx.c1
  clear lx ln hX hN
  go_wp2_with fail
  refine (CF1.out _ (Ext.refl _)).mono ?_
  rintro r w6 ⟨rfl, h6⟩
  have hy := hy.below h6
  have HE6 := Lib.hid h6
  clear x0 x1 hx h6
  have y0 := hy.c0
  have y1 := hy.c1
  have hcmp : ((ByteArray.mk #[45, 49]).toList == (ByteArray.mk #[45, 49]).toList) = true := by simp
  have hcmp2 : ((ByteArray.mk #[54]).toList == (ByteArray.mk #[54]).toList) = true := by simp
  go_wp2_with fail
  refine (CF2.out _ HE6.out).mono ?_
  rintro r w7 ⟨rfl, h7⟩
  have HE7 := Lib.hid ((HE5.out.trans HE6.out).trans h7)
  have C2 := Lib.hid (isPrime_any 2 w7 (HT.out.below HE7.out))
  have C9 := Lib.hid (isPrime_any 9 w7 (HT.out.below HE7.out))
  rw [mr2] at C2
  rw [mr9] at C9
  clear y0 y1 hy h7 CF1 CF2
  go_wp2_with fail
  refine C2.out.mono ?_
  rintro r w8 ⟨rfl, rfl⟩
  go_wp2_with fail
  refine C9.out.mono ?_
  rintro r w8 ⟨rfl, rfl⟩
  go_wp2
  go_ret
  exact ⟨rfl, HE7.out⟩
end Go.Proofs.YtagahbbjljndeaaGreatDoor

namespace Go.Proofs.YtagahbbjljndeaaGreatDoor
theorem range0 : chk 2 9998 = true := by decide +kernel
theorem range1 : chk 10000 10000 = true := by decide +kernel
theorem range2 : chk 20000 10000 = true := by decide +kernel
theorem range3 : chk 30000 10000 = true := by decide +kernel
end Go.Proofs.YtagahbbjljndeaaGreatDoor

namespace Go.Proofs.YtagahbbjljndeaaGreatDoor
theorem range4 : chk 40000 10000 = true := by decide +kernel
theorem range5 : chk 50000 10000 = true := by decide +kernel
theorem range6 : chk 60000 10000 = true := by decide +kernel
end Go.Proofs.YtagahbbjljndeaaGreatDoor

namespace Go.Proofs.YtagahbbjljndeaaGreatDoor
theorem range7 : chk 70000 10000 = true := by decide +kernel
theorem range8 : chk 80000 10000 = true := by decide +kernel
theorem range9 : chk 90000 10000 = true := by decide +kernel
theorem top_range : chkT 2147483587 61 = true := by decide +kernel
end Go.Proofs.YtagahbbjljndeaaGreatDoor

namespace Go.Proofs.YtagahbbjljndeaaGreatDoor
theorem small_agree {p : Nat} (h2 : 2 ≤ p) (h : p < 100000) : mrB p [2, 3, 5, 7] = true ↔ noDiv p 2 := by
  have key : mrK p = !listDiv p smallPrimes := by
    rcases Nat.lt_or_ge p 10000 with h' | h'
    · exact chk_spec range0 p h2 (by omega)
    rcases Nat.lt_or_ge p 20000 with h' | h'
    · exact chk_spec range1 p (by omega) (by omega)
    rcases Nat.lt_or_ge p 30000 with h' | h'
    · exact chk_spec range2 p (by omega) (by omega)
    rcases Nat.lt_or_ge p 40000 with h' | h'
    · exact chk_spec range3 p (by omega) (by omega)
    rcases Nat.lt_or_ge p 50000 with h' | h'
    · exact chk_spec range4 p (by omega) (by omega)
    rcases Nat.lt_or_ge p 60000 with h' | h'
    · exact chk_spec range5 p (by omega) (by omega)
    rcases Nat.lt_or_ge p 70000 with h' | h'
    · exact chk_spec range6 p (by omega) (by omega)
    rcases Nat.lt_or_ge p 80000 with h' | h'
    · exact chk_spec range7 p (by omega) (by omega)
    rcases Nat.lt_or_ge p 90000 with h' | h'
    · exact chk_spec range8 p (by omega) (by omega)
    exact chk_spec range9 p (by omega) (by omega)
  rw [← mrK_eq (by omega) (by omega), key, ← small_noDiv (by omega)]
  cases listDiv p smallPrimes <;> simp
theorem top_agree {p : Nat} (h2 : 2147483587 ≤ p) (h : p ≤ 2147483647) : mrB p [2, 3, 5, 7] = true ↔ noDiv p 2 := by
  rw [← mrK_eq (by omega) (by omega), chkT_spec top_range p (by omega) (by omega), ← anyDiv_noDiv (p := p) (t := 46340) (n := 46339) rfl (by omega)]
  cases anyDiv p 46340 46339 <;> simp
/-- where the test is the trial -/
theorem mr_isP {p : Int} (h : p < 100000 ∨ 2147483587 ≤ p) : mr p = isP p := by
  refine (isP_of ?_).symm
  unfold mr
  by_cases h1 : 2 ≤ p ∧ p ≤ 2147483647
  · obtain ⟨n, rfl⟩ := Int.eq_ofNat_of_zero_le (show 0 ≤ p by omega)
    have hk : mrB n [2, 3, 5, 7] = true ↔ noDiv n 2 := by
      rcases h with h | h
      · exact small_agree (by omega) (by omega)
      · exact top_agree (by omega) (by omega)
    rw [show ((n : Int)).toNat = n from rfl, decide_eq_true h1, Bool.true_and, hk]
    exact ⟨fun h => ⟨h1.1, h1.2, h⟩, fun h => h.2.2⟩
  · rw [decide_eq_false h1, Bool.false_and]
    exact ⟨fun h => (by cases h), fun h => absurd ⟨h.1, h.2.1⟩ h1⟩
end Go.Proofs.YtagahbbjljndeaaGreatDoor

namespace Go.Proofs.YtagahbbjljndeaaGreatDoor
open Go Go.RowKit

set_option maxRecDepth 100000 in
theorem modulus_any (p : Int) (w : World) :
    Calls Tryz.prog 7 #[.int .i64 p] w fun e w' => e = .returned (.bool (decide (p < 100000 ∨ 2147483637 < p))) ∧ w = w' := by
  by_cases h1 : p < 100000
  · rw [decide_eq_true (Or.inl h1)]
    go_enter Tryz.func7, Tryz.ntmps7
    go_wp2
    go_ret
    exact ⟨rfl, rfl⟩
  · by_cases h2 : 2147483637 < p
    · rw [decide_eq_true (Or.inr h2)]
      go_enter Tryz.func7, Tryz.ntmps7
      go_wp2
      go_ret
      exact ⟨rfl, rfl⟩
    · rw [decide_eq_false (show ¬ (p < 100000 ∨ 2147483637 < p) by omega)]
      go_enter Tryz.func7, Tryz.ntmps7
      go_wp2
      go_ret
      exact ⟨rfl, rfl⟩

set_option maxRecDepth 100000 in
set_option maxHeartbeats 8000000 in
theorem mnumbers_any (pn : Bool) (po : Option Addr) (pk pc : Nat) (n k p : Int) (w : World) (hraw : pk ≤ 1099511627776 → ∃ zs, Sl w po pk pc zs) (hk1 : -9223372036854775808 ≤ k ∧ k ≤ 9223372036854775807) (hT : Table64 w) (hP : Pow10 w) :
    Calls Tryz.prog 3 #[.agg #[.bool pn, .slice po pk pc], .int .i64 n, .int .i64 k, .int .i64 p] w fun e w' => e = .returned (.bool true) ∧ Ext w w' := by
  go_enter Tryz.func3, Tryz.ntmps3
  go_wp2_with fail
  obtain ⟨W, hW, hB, hx, _⟩ := box_new w pn po pk pc
  rw [← hW]
  clear hW
  have HE := Lib.hid (show Ext w W from hB)
  have HT := Lib.hid (show Table64 W from hT.below hB)
  have HAW := Lib.hid (show ∀ wx, Ext W wx → Calls Tryz.prog 8 #[] wx fun e w' => e = .returned (.bool true) ∧ Ext wx w' from fun wx h => mawake_any wx ((hT.below hB).below h) ((hP.below hB).below h))
  have HZ := Lib.hid (show pk ≤ 1099511627776 → ∃ zs, Sl W po pk pc zs from fun h => (hraw h).elim fun zs hz => ⟨zs, hz.below hB⟩)
  generalize w.heap.size = B at *
  clear hraw hT hP hB
  have x0 := hx.c0
  have x1 := hx.c1
  by_cases h40 : pk ≤ 40
  · refine (slim_yes pn po pk pc 40 W h40).mono ?_
    rintro e w1 ⟨rfl, h1⟩
    have hx := hx.below h1
    have HE1 := Lib.hid h1
    clear x0 x1 h1
    have x0 := hx.c0
    have x1 := hx.c1
    go_wp2_with fail
    refine (modulus_any p _).mono ?_
    by_cases hmod : p < 100000 ∨ 2147483637 < p
    · rw [decide_eq_true hmod]
      rintro e w2 ⟨rfl, rfl⟩
      have hmi : mr p = isP p := mr_isP (by omega)
      obtain ⟨zs, hzs⟩ := HZ.out (by omega)
      obtain ⟨X, hX⟩ : ∃ X, sgd pn zs = X := ⟨_, rfl⟩
      have hBg : Bg W pn po pk pc X := ⟨⟨zs, hzs, hX.symm⟩, by omega⟩
      have HE2 := Lib.hid (show Ext W w1 from HE1.out)
      clear hmod hX hzs
      cases hpr : mr p with
      | false =>
        have HPR := Lib.hid (hmi.symm.trans hpr)
        have CRD := Lib.hid (reduce_no pn po pk pc X p w1 (hBg.below HE2.out) (HT.out.below HE2.out) hpr)
        have CIV := Lib.hid (fun wx (h : Table64 wx) => inv_no n p wx h hpr)
        have CPW := Lib.hid (fun wx (h : Table64 wx) => pow_no n k p wx h hpr)
        clear hpr hmi hBg
        go_wp2_with fail
        refine CRD.out.mono ?_
        rintro e w3 ⟨rfl, h3⟩
        have hx := hx.below h3
        have HE3 := Lib.hid (HE2.out.trans h3)
        clear x0 x1 h3 CRD
        have x0 := hx.c0
        have x1 := hx.c1
        go_wp2_with fail
        refine (CIV.out _ (HT.out.below HE3.out)).mono ?_
        rintro e w4 ⟨rfl, rfl⟩
        clear CIV
        go_wp2_with fail
        refine (CPW.out _ (HT.out.below HE3.out)).mono ?_
        rintro e w4 ⟨rfl, rfl⟩
        clear CPW
        go_wp2_with fail
        refine (refIsPrime_any p _).mono ?_
        rw [HPR.out]
        rintro e w4 ⟨rfl, rfl⟩
        go_wp2_with fail
        refine (HAW.out _ HE3.out).mono ?_
        rintro e wa ⟨rfl, hwa⟩
        have HEA := Lib.hid (HE.out.trans (HE3.out.trans hwa))
        clear x0 x1 hx
        go_wp2
        go_ret
        exact ⟨rfl, HEA.out⟩
      | true =>
        have HPR := Lib.hid (hmi.symm.trans hpr)
        obtain ⟨p2, p3⟩ := mr_bounds hpr
        have CRD := Lib.hid (reduce_yes pn po pk pc X p w1 (hBg.below HE2.out) (by omega) (HT.out.below HE2.out) hpr)
        have CRR := Lib.hid (fun wx (h : Ext W wx) => refReduce_any pn po pk pc X p wx (hBg.below h) (by omega) (by omega) (by omega))
        have CM := Lib.hid (fun wx => refMod_any n p wx (by omega) (by omega))
        obtain ⟨z, hz⟩ : ∃ z, X % p = z := ⟨_, rfl⟩
        rw [hz] at CRD CRR
        clear hmi hBg hz
        by_cases hn0 : n % p = 0
        · have CIV := Lib.hid (fun wx (h : Table64 wx) => inv_zero n p wx h hpr hn0)
          rw [hn0] at CM
          clear hn0
          by_cases hkn : k < 0
          · have CPW := Lib.hid (fun wx (h : Table64 wx) => pow_neg n k p wx h hpr hkn)
            clear hpr p2 p3 hk1
            go_wp2_with fail
            refine CRD.out.mono ?_
            rintro e w3 ⟨rfl, h3⟩
            have hx := hx.below h3
            have HE3 := Lib.hid (HE2.out.trans h3)
            clear x0 x1 h3 CRD
            have x0 := hx.c0
            have x1 := hx.c1
            go_wp2_with fail
            refine (CIV.out _ (HT.out.below HE3.out)).mono ?_
            rintro e w4 ⟨rfl, rfl⟩
            clear CIV
            go_wp2_with fail
            refine (CPW.out _ (HT.out.below HE3.out)).mono ?_
            rintro e w4 ⟨rfl, rfl⟩
            clear CPW
            go_wp2_with fail
            refine (refIsPrime_any p _).mono ?_
            rw [HPR.out]
            rintro e w4 ⟨rfl, rfl⟩
            go_wp2_with fail
            refine (CRR.out _ HE3.out).mono ?_
            rintro e w5 ⟨rfl, h5⟩
            have hx := hx.below h5
            have HE5 := Lib.hid (HE3.out.trans h5)
            clear x0 x1 h5 CRR
            have x0 := hx.c0
            have x1 := hx.c1
            go_wp2_with fail
            refine (CM.out _).mono ?_
            rintro e w6 ⟨rfl, rfl⟩
            clear CM
            go_wp2_with fail
            refine (HAW.out _ HE5.out).mono ?_
            rintro e wa ⟨rfl, hwa⟩
            have HEA := Lib.hid (HE.out.trans (HE5.out.trans hwa))
            clear x0 x1 hx
            go_wp2
            go_ret
            exact ⟨rfl, HEA.out⟩
          · have CPW := Lib.hid (fun wx (h : Table64 wx) => pow_yes n k p wx h hpr (by omega) hk1.2)
            have CRP := Lib.hid (fun wx => refPowerZ n k p wx (by omega) hk1.2 (by omega) p3)
            obtain ⟨y, hy⟩ : ∃ y, powZ n k p = y := ⟨_, rfl⟩
            rw [hy] at CPW CRP
            clear hpr p2 p3 hk1 hy
            go_wp2_with fail
            refine CRD.out.mono ?_
            rintro e w3 ⟨rfl, h3⟩
            have hx := hx.below h3
            have HE3 := Lib.hid (HE2.out.trans h3)
            clear x0 x1 h3 CRD
            have x0 := hx.c0
            have x1 := hx.c1
            go_wp2_with fail
            refine (CIV.out _ (HT.out.below HE3.out)).mono ?_
            rintro e w4 ⟨rfl, rfl⟩
            clear CIV
            go_wp2_with fail
            refine (CPW.out _ (HT.out.below HE3.out)).mono ?_
            rintro e w4 ⟨rfl, rfl⟩
            clear CPW
            go_wp2_with fail
            refine (refIsPrime_any p _).mono ?_
            rw [HPR.out]
            rintro e w4 ⟨rfl, rfl⟩
            go_wp2_with fail
            refine (CRR.out _ HE3.out).mono ?_
            rintro e w5 ⟨rfl, h5⟩
            have hx := hx.below h5
            have HE5 := Lib.hid (HE3.out.trans h5)
            clear x0 x1 h5 CRR
            have x0 := hx.c0
            have x1 := hx.c1
            go_wp2_with fail
            refine (CM.out _).mono ?_
            rintro e w6 ⟨rfl, rfl⟩
            clear CM
            go_wp2_with fail
            refine (CRP.out _).mono ?_
            rintro e w6 ⟨rfl, rfl⟩
            clear CRP
            go_wp2_with fail
            refine (HAW.out _ HE5.out).mono ?_
            rintro e wa ⟨rfl, hwa⟩
            have HEA := Lib.hid (HE.out.trans (HE5.out.trans hwa))
            clear x0 x1 hx
            go_wp2
            go_ret
            exact ⟨rfl, HEA.out⟩
        · have CIV := Lib.hid (fun wx (h : Table64 wx) => inv_yes n p wx h hpr hn0)
          have CRI := Lib.hid (fun wx => refInverse_mod n p wx (by omega) p3)
          obtain ⟨v, hv⟩ : ∃ v, invZ (n % p) p = v := ⟨_, rfl⟩
          rw [hv] at CIV CRI
          obtain ⟨m, hm⟩ : ∃ m, n % p = m := ⟨_, rfl⟩
          rw [hm] at CM hn0
          clear hv hm
          by_cases hkn : k < 0
          · have CPW := Lib.hid (fun wx (h : Table64 wx) => pow_neg n k p wx h hpr hkn)
            clear hpr p2 p3 hk1
            go_wp2_with fail
            refine CRD.out.mono ?_
            rintro e w3 ⟨rfl, h3⟩
            have hx := hx.below h3
            have HE3 := Lib.hid (HE2.out.trans h3)
            clear x0 x1 h3 CRD
            have x0 := hx.c0
            have x1 := hx.c1
            go_wp2_with fail
            refine (CIV.out _ (HT.out.below HE3.out)).mono ?_
            rintro e w4 ⟨rfl, rfl⟩
            clear CIV
            go_wp2_with fail
            refine (CPW.out _ (HT.out.below HE3.out)).mono ?_
            rintro e w4 ⟨rfl, rfl⟩
            clear CPW
            go_wp2_with fail
            refine (refIsPrime_any p _).mono ?_
            rw [HPR.out]
            rintro e w4 ⟨rfl, rfl⟩
            go_wp2_with fail
            refine (CRR.out _ HE3.out).mono ?_
            rintro e w5 ⟨rfl, h5⟩
            have hx := hx.below h5
            have HE5 := Lib.hid (HE3.out.trans h5)
            clear x0 x1 h5 CRR
            have x0 := hx.c0
            have x1 := hx.c1
            go_wp2_with fail
            refine (CM.out _).mono ?_
            rintro e w6 ⟨rfl, rfl⟩
            clear CM
            go_wp2_with fail
            refine (CRI.out _).mono ?_
            rintro e w6 ⟨rfl, rfl⟩
            clear CRI
            go_wp2_with fail
            refine (HAW.out _ HE5.out).mono ?_
            rintro e wa ⟨rfl, hwa⟩
            have HEA := Lib.hid (HE.out.trans (HE5.out.trans hwa))
            clear x0 x1 hx
            go_wp2
            go_ret
            exact ⟨rfl, HEA.out⟩
          · have CPW := Lib.hid (fun wx (h : Table64 wx) => pow_yes n k p wx h hpr (by omega) hk1.2)
            have CRP := Lib.hid (fun wx => refPowerZ n k p wx (by omega) hk1.2 (by omega) p3)
            obtain ⟨y, hy⟩ : ∃ y, powZ n k p = y := ⟨_, rfl⟩
            rw [hy] at CPW CRP
            clear hpr p2 p3 hk1 hy
            go_wp2_with fail
            refine CRD.out.mono ?_
            rintro e w3 ⟨rfl, h3⟩
            have hx := hx.below h3
            have HE3 := Lib.hid (HE2.out.trans h3)
            clear x0 x1 h3 CRD
            have x0 := hx.c0
            have x1 := hx.c1
            go_wp2_with fail
            refine (CIV.out _ (HT.out.below HE3.out)).mono ?_
            rintro e w4 ⟨rfl, rfl⟩
            clear CIV
            go_wp2_with fail
            refine (CPW.out _ (HT.out.below HE3.out)).mono ?_
            rintro e w4 ⟨rfl, rfl⟩
            clear CPW
            go_wp2_with fail
            refine (refIsPrime_any p _).mono ?_
            rw [HPR.out]
            rintro e w4 ⟨rfl, rfl⟩
            go_wp2_with fail
            refine (CRR.out _ HE3.out).mono ?_
            rintro e w5 ⟨rfl, h5⟩
            have hx := hx.below h5
            have HE5 := Lib.hid (HE3.out.trans h5)
            clear x0 x1 h5 CRR
            have x0 := hx.c0
            have x1 := hx.c1
            go_wp2_with fail
            refine (CM.out _).mono ?_
            rintro e w6 ⟨rfl, rfl⟩
            clear CM
            go_wp2_with fail
            refine (CRI.out _).mono ?_
            rintro e w6 ⟨rfl, rfl⟩
            clear CRI
            go_wp2_with fail
            refine (CRP.out _).mono ?_
            rintro e w6 ⟨rfl, rfl⟩
            clear CRP
            go_wp2_with fail
            refine (HAW.out _ HE5.out).mono ?_
            rintro e wa ⟨rfl, hwa⟩
            have HEA := Lib.hid (HE.out.trans (HE5.out.trans hwa))
            clear x0 x1 hx
            go_wp2
            go_ret
            exact ⟨rfl, HEA.out⟩
    · rw [decide_eq_false hmod]
      rintro e w2 ⟨rfl, rfl⟩
      clear hmod
      go_wp2_with fail
      refine (HAW.out _ HE1.out).mono ?_
      rintro e wa ⟨rfl, hwa⟩
      have HEA := Lib.hid (HE.out.trans (HE1.out.trans hwa))
      clear x0 x1 hx hwa
      go_wp2
      go_ret
      exact ⟨rfl, HEA.out⟩
  · refine (slim_no pn po pk pc 40 W h40).mono ?_
    rintro e w1 ⟨rfl, h1⟩
    have HE1 := Lib.hid h1
    clear x0 x1 h1 hx
    go_wp2_with fail
    refine (HAW.out _ HE1.out).mono ?_
    rintro e wa ⟨rfl, hwa⟩
    have HEA := Lib.hid (HE.out.trans (HE1.out.trans hwa))
    clear hwa
    go_wp2
    go_ret
    exact ⟨rfl, HEA.out⟩
end Go.Proofs.YtagahbbjljndeaaGreatDoor
