import Derived.Test.YthicfkeiggcjjaaGreatDoorEcDlU38
import Derived.Test.YthicfkeiggcjjaaGreatDoorEcDlU39
import Derived.Test.YthicfkeiggcjjaaGreatDoorEcDlU40
import Derived.Test.YthicfkeiggcjjaaGreatDoorEcDlU45
namespace Go.Proofs.YthicfkeiggcjjaaGreatDoor
open Go Go.RowKit

theorem mr2 : mr 2 = true := by decide +kernel
theorem mr9 : mr 9 = false := by decide +kernel
theorem inv37 : invZ (3 % 7) 7 = 5 := by decide +kernel
theorem mod23 : modE [2, 3] = 0 := by decide +kernel
theorem crt23 : crtN [2, 3] = 6 ∧ crtC (crtFin [1, 2] [2, 3]) 6 = -1 := by decide +kernel
theorem tex_m1 : texI (-1) = [45, 49] := by decide +kernel
theorem tex_6 : texI 6 = [54] := by decide +kernel
theorem vblk_ns {w : World} {g : Nat} {x y : Int} (h : VBlk w g #[.int .i64 x, .int .i64 y] 3) : Ns w (some ⟨g, 0, none⟩) 2 2 [x, y] := ⟨rfl, Nat.le_refl _, fun _ => ⟨g, 0, rfl, fun j hj => by
  rw [Nat.zero_add, h.c j]
  match j, hj with
  | 0, _ => rfl
  | 1, _ => rfl⟩⟩

set_option maxRecDepth 100000 in
set_option maxHeartbeats 8000000 in
theorem mawake_any (w : World) (hT : Table64 w) (hP : Pow10 w) : Calls Tryz.prog 8 #[] w fun e w' => e = .returned (.bool true) ∧ Ext w w' := by
  have CI := Lib.hid (inv_yes 3 7 w hT mr7 (by decide))
  rw [inv37] at CI
  go_enter Tryz.func8, Tryz.ntmps8
  go_wp2_with fail
  refine CI.out.mono ?_
  rintro e w1 ⟨rfl, rfl⟩
  clear CI
  go_wp2_with fail
  obtain ⟨g, hg⟩ : ∃ g, w.heap.size = g := ⟨_, rfl⟩
  obtain ⟨V, hV⟩ : ∃ V, (w.alloc (.cells #[.int .i64 1, .int .i64 2] 3)).alloc (.cells #[.slice (some ⟨w.heap.size, 0, none⟩) 2 2] 23) = V := ⟨_, rfl⟩
  have hEV : Ext w V := by rw [← hV]; exact ((Below.refl _ w).alloc (Nat.le_refl _) _).alloc (by simp) _
  have n1 : VBlk V w.heap.size #[.int .i64 1, .int .i64 2] 3 := by
    rw [← hV]; exact (VBlk.new w _ _).below ((Below.refl _ _).alloc (Nat.le_refl _) _)
  have n2 : VBlk V (w.heap.size + 1) #[.slice (some ⟨w.heap.size, 0, none⟩) 2 2] 23 := by
    rw [← hV]
    have := VBlk.new (w.alloc (.cells #[.int .i64 1, .int .i64 2] 3)) #[.slice (some ⟨w.heap.size, 0, none⟩) 2 2] 23
    simpa using this
  rw [hV]
  have HT := Lib.hid hT
  have HP := Lib.hid hP
  refine (kernel_12 (w.heap.size + 1) w.heap.size V (n2.c 0) (n1.c 0) (n1.c 1) (hT.below hEV)).mono ?_
  rintro r w2 ⟨v, rfl, hk, hE2⟩
  have HE := Lib.hid (hEV.trans hE2)
  clear n1 n2 hV hEV hE2 hT hP hg
  go_wp2_with fail
  obtain ⟨V2, hV2⟩ : ∃ V, (w2.alloc (.cells #[.int .i64 1, .int .i64 2] 3)).alloc (.cells #[.int .i64 2, .int .i64 3] 3) = V := ⟨_, rfl⟩
  have hE2 : Ext w2 V2 := by rw [← hV2]; exact ((Below.refl _ w2).alloc (Nat.le_refl _) _).alloc (by simp) _
  have m1 : VBlk V2 w2.heap.size #[.int .i64 1, .int .i64 2] 3 := by
    rw [← hV2]; exact (VBlk.new w2 _ _).below ((Below.refl _ _).alloc (Nat.le_refl _) _)
  have m2 : VBlk V2 (w2.heap.size + 1) #[.int .i64 2, .int .i64 3] 3 := by
    rw [← hV2]
    have := VBlk.new (w2.alloc (.cells #[.int .i64 1, .int .i64 2] 3)) #[.int .i64 2, .int .i64 3] 3
    simpa using this
  rw [hV2]
  have hk2 := hk.below hE2
  have HE2 := Lib.hid (HE.out.trans hE2)
  clear hk hE2 hV2
  refine (combine_yes (some ⟨w2.heap.size, 0, none⟩) (some ⟨w2.heap.size + 1, 0, none⟩) 2 2 2 [1, 2] [2, 3] V2 (vblk_ns m1) (vblk_ns m2) (by omega) (by intro p hp; simp at hp; omega) (HT.out.below HE2.out) mod23).mono ?_
  rintro r w3 ⟨an, aa, ak, ac, bn, ba, bk, bc, rfl, hX, hN, hE3⟩
  rw [crt23.1, crt23.2] at hX
  rw [crt23.1] at hN
  have hk3 := hk2.below hE3
  have HE3 := Lib.hid (HE2.out.trans hE3)
  clear m1 m2 hk2 hE3
  go_upto_region 4 with fail
  obtain ⟨V4, hV4, hE4, hx, hy⟩ := box_pair w3 an aa ak ac bn ba bk bc
  rw [← hV4]
  have hX4 := hX.below hE4
  have hN4 := hN.below hE4
  have hk4 := hk3.below hE4
  have HE4 := Lib.hid (HE3.out.trans hE4)
  clear hV4 hX hN hk3 hE4
  generalize w3.heap.size = D at *
  have x0 := hx.c0
  have x1 := hx.c1
  have y0 := hy.c0
  have y1 := hy.c1
  go_wp2_with fail
  have hE5 : Ext V4 (V4.alloc (.cells #[.int .i64 5, .int .i64 1] 3)) := (Below.refl _ V4).alloc (Nat.le_refl _) _
  have m5 := VBlk.new V4 #[.int .i64 5, .int .i64 1] 3
  have CN := (ints_any (some ⟨v, 0, none⟩) (some ⟨V4.heap.size, 0, none⟩) 2 2 2 2 [5, 1] [5, 1] _ (vblk_ns (hk4.below hE5)) (vblk_ns m5) (by omega))
  rw [show decide ([(5 : Int), 1] = [5, 1]) = true from by decide] at CN
  refine CN.mono ?_
  rintro r w5 ⟨rfl, h5⟩
  have hE5 := Ext.trans hE5 h5
  have hx := hx.below hE5
  have hy := hy.below hE5
  have hX := hX4.below hE5
  have hN := hN4.below hE5
  have HE5 := Lib.hid (HE4.out.trans hE5)
  clear x0 x1 y0 y1 CN m5 hX4 hN4 hk4 h5 hE5
  have lx := few_limbs hX (k := 1) (by decide)
  have ln := few_limbs hN (k := 1) (by decide)
  obtain ⟨t1, ht1⟩ : ∃ t : ByteArray, (⟨(texI (-1)).toArray⟩ : ByteArray) = t := ⟨_, rfl⟩
  obtain ⟨t2, ht2⟩ : ∃ t : ByteArray, (⟨(texI 6).toArray⟩ : ByteArray) = t := ⟨_, rfl⟩
  have CF1 := Lib.hid (fun wx (h : Ext w5 wx) => format_any an aa ak ac (-1) wx ((hX.bg (by omega)).below h) (by omega) (HP.out.below (HE5.out.trans h)) t1 ht1)
  have CF2 := Lib.hid (fun wx (h : Ext w5 wx) => format_any bn ba bk bc 6 wx ((hN.bg (by omega)).below h) (by omega) (HP.out.below (HE5.out.trans h)) t2 ht2)
  rw [tex_m1] at ht1
  rw [tex_6] at ht2
  subst ht1 ht2
  have x0 := hx.c0
  have x1 := hx.c1
  clear lx ln hX hN
  go_wp2_with fail
  refine (CF1.out _ (Ext.refl _)).mono ?_
  rintro r w6 ⟨rfl, h6⟩
  have hy := hy.below h6
  have HE6 := Lib.hid h6
  clear x0 x1 hx h6
  have y0 := hy.c0
  have y1 := hy.c1
  have hcmp : ((ByteArray.mk #[45, 49]).toList == (ByteArray.mk #[45, 49]).toList) = true := by simp
  have hcmp2 : ((ByteArray.mk #[54]).toList == (ByteArray.mk #[54]).toList) = true := by simp
  go_wp2_with fail
  refine (CF2.out _ HE6.out).mono ?_
  rintro r w7 ⟨rfl, h7⟩
  have HE7 := Lib.hid ((HE5.out.trans HE6.out).trans h7)
  have C2 := Lib.hid (isPrime_any 2 w7 (HT.out.below HE7.out))
  have C9 := Lib.hid (isPrime_any 9 w7 (HT.out.below HE7.out))
  rw [mr2] at C2
  rw [mr9] at C9
  clear y0 y1 hy h7 CF1 CF2
  go_wp2_with fail
  refine C2.out.mono ?_
  rintro r w8 ⟨rfl, rfl⟩
  go_wp2_with fail
  refine C9.out.mono ?_
  rintro r w8 ⟨rfl, rfl⟩
  go_wp2
  go_ret
  exact ⟨rfl, HE7.out⟩
end Go.Proofs.YthicfkeiggcjjaaGreatDoor
