import Derived.Test.YtlpclahlolhjfaaGreatDoorMoRlU30
import Derived.Test.YtlpclahlolhjfaaGreatDoorMoRlU32
import Derived.Test.YtlpclahlolhjfaaGreatDoorMoRlU37
import Derived.Test.YtlpclahlolhjfaaGreatDoorMoRlU28
import Derived.Test.YtlpclahlolhjfaaGreatDoorMoRlU5
import Derived.Test.YtlpclahlolhjfaaGreatDoorMoRlU4
namespace Go.Proofs.YtlpclahlolhjfaaGreatDoor
open Go Go.RowKit

theorem mr2 : mr 2 = true := by decide +kernel
theorem mr9 : mr 9 = false := by decide +kernel
theorem inv37 : invZ (3 % 7) 7 = 5 := by decide +kernel
theorem mod23 : modE [2, 3] = 0 := by decide +kernel
theorem crt23 : crtN [2, 3] = 6 ∧ crtC (crtFin [1, 2] [2, 3]) 6 = -1 := by decide +kernel
theorem tex_m1 : texI (-1) = [45, 49] := by decide +kernel
theorem tex_6 : texI 6 = [54] := by decide +kernel
theorem vblk_ns {w : World} {g : Nat} {x y : Int} (h : VBlk w g #[.int .i64 x, .int .i64 y] 3) : Ns w (some ⟨g, 0, none⟩) 2 2 [x, y] := ⟨rfl, Nat.le_refl _, fun _ => ⟨g, 0, rfl, fun j hj => by
  rw [Nat.zero_add, h.c j]
  match j, hj with
  | 0, _ => rfl
  | 1, _ => rfl⟩⟩

set_option maxRecDepth 100000 in
set_option maxHeartbeats 8000000 in
theorem mawake_any (w : World) (hT : Table64 w) (hP : Pow10 w) : Calls Tryz.prog 5 #[] w fun e w' => e = .returned (.bool true) ∧ Ext w w' := by
  have CI := Lib.hid (inv_yes 3 7 w hT mr7 (by decide))
  rw [inv37] at CI
  go_enter Tryz.func5, Tryz.ntmps5
  go_wp2_with fail
  refine CI.out.mono ?_
  rintro e w1 ⟨rfl, rfl⟩
  clear CI
  go_wp2_with fail
  obtain ⟨g, hg⟩ : ∃ g, w.heap.size = g := ⟨_, rfl⟩
  obtain ⟨V, hV⟩ : ∃ V, (w.alloc (.cells #[.int .i64 1, .int .i64 2] 3)).alloc (.cells #[.slice (some ⟨w.heap.size, 0, none⟩) 2 2] 22) = V := ⟨_, rfl⟩
  have hEV : Ext w V := by rw [← hV]; exact ((Below.refl _ w).alloc (Nat.le_refl _) _).alloc (by simp) _
  have n1 : VBlk V w.heap.size #[.int .i64 1, .int .i64 2] 3 := by
    rw [← hV]; exact (VBlk.new w _ _).below ((Below.refl _ _).alloc (Nat.le_refl _) _)
  have n2 : VBlk V (w.heap.size + 1) #[.slice (some ⟨w.heap.size, 0, none⟩) 2 2] 22 := by
    rw [← hV]
    have := VBlk.new (w.alloc (.cells #[.int .i64 1, .int .i64 2] 3)) #[.slice (some ⟨w.heap.size, 0, none⟩) 2 2] 22
    simpa using this
  rw [hV]
  have HT := Lib.hid hT
  have HP := Lib.hid hP
  refine (kernel_12 (w.heap.size + 1) w.heap.size V (n2.c 0) (n1.c 0) (n1.c 1) (hT.below hEV)).mono ?_
  rintro r w2 ⟨v, rfl, hk, hE2⟩
  have HE := Lib.hid (hEV.trans hE2)
  clear n1 n2 hV hEV hE2 hT hP hg
  go_wp2_with fail
  obtain ⟨V2, hV2⟩ : ∃ V, (w2.alloc (.cells #[.int .i64 1, .int .i64 2] 3)).alloc (.cells #[.int .i64 2, .int .i64 3] 3) = V := ⟨_, rfl⟩
  have hE2 : Ext w2 V2 := by rw [← hV2]; exact ((Below.refl _ w2).alloc (Nat.le_refl _) _).alloc (by simp) _
  have m1 : VBlk V2 w2.heap.size #[.int .i64 1, .int .i64 2] 3 := by
    rw [← hV2]; exact (VBlk.new w2 _ _).below ((Below.refl _ _).alloc (Nat.le_refl _) _)
  have m2 : VBlk V2 (w2.heap.size + 1) #[.int .i64 2, .int .i64 3] 3 := by
    rw [← hV2]
    have := VBlk.new (w2.alloc (.cells #[.int .i64 1, .int .i64 2] 3)) #[.int .i64 2, .int .i64 3] 3
    simpa using this
  rw [hV2]
  have hk2 := hk.below hE2
  have HE2 := Lib.hid (HE.out.trans hE2)
  clear hk hE2 hV2
  refine (combine_yes (some ⟨w2.heap.size, 0, none⟩) (some ⟨w2.heap.size + 1, 0, none⟩) 2 2 2 [1, 2] [2, 3] V2 (vblk_ns m1) (vblk_ns m2) (by omega) (by intro p hp; simp at hp; omega) (HT.out.below HE2.out) mod23).mono ?_
  rintro r w3 ⟨an, aa, ak, ac, bn, ba, bk, bc, rfl, hX, hN, hE3⟩
  rw [crt23.1, crt23.2] at hX
  rw [crt23.1] at hN
  have hk3 := hk2.below hE3
  have HE3 := Lib.hid (HE2.out.trans hE3)
  clear m1 m2 hk2 hE3
  go_upto_region 4 with fail
  obtain ⟨V4, hV4, hE4, hx, hy⟩ := box_pair w3 an aa ak ac bn ba bk bc
  rw [← hV4]
  have hX4 := hX.below hE4
  have hN4 := hN.below hE4
  have hk4 := hk3.below hE4
  have HE4 := Lib.hid (HE3.out.trans hE4)
  clear hV4 hX hN hk3 hE4
  generalize w3.heap.size = D at *
  have x0 := hx.c0
  have x1 := hx.c1
  have y0 := hy.c0
  have y1 := hy.c1
  go_wp2_with fail
  have hE5 : Ext V4 (V4.alloc (.cells #[.int .i64 5, .int .i64 1] 3)) := (Below.refl _ V4).alloc (Nat.le_refl _) _
  have m5 := VBlk.new V4 #[.int .i64 5, .int .i64 1] 3
  have CN := (ints_any (some ⟨v, 0, none⟩) (some ⟨V4.heap.size, 0, none⟩) 2 2 2 2 [5, 1] [5, 1] _ (vblk_ns (hk4.below hE5)) (vblk_ns m5) (by omega))
  rw [show decide ([(5 : Int), 1] = [5, 1]) = true from by decide] at CN
  refine CN.mono ?_
  rintro r w5 ⟨rfl, h5⟩
  have hE5 := Ext.trans hE5 h5
  have hx := hx.below hE5
  have hy := hy.below hE5
  have hX := hX4.below hE5
  have hN := hN4.below hE5
  have HE5 := Lib.hid (HE4.out.trans hE5)
  clear x0 x1 y0 y1 CN m5 hX4 hN4 hk4 h5 hE5
  have lx := few_limbs hX (k := 1) (by decide)
  have ln := few_limbs hN (k := 1) (by decide)
  obtain ⟨t1, ht1⟩ : ∃ t : ByteArray, (⟨(texI (-1)).toArray⟩ : ByteArray) = t := ⟨_, rfl⟩
  obtain ⟨t2, ht2⟩ : ∃ t : ByteArray, (⟨(texI 6).toArray⟩ : ByteArray) = t := ⟨_, rfl⟩
  have CF1 := Lib.hid (fun wx (h : Ext w5 wx) => format_any an aa ak ac (-1) wx ((hX.bg (by omega)).below h) (by omega) (HP.out.below (HE5.out.trans h)) t1 ht1)
  have CF2 := Lib.hid (fun wx (h : Ext w5 wx) => format_any bn ba bk bc 6 wx ((hN.bg (by omega)).below h) (by omega) (HP.out.below (HE5.out.trans h)) t2 ht2)
  rw [tex_m1] at ht1
  rw [tex_6] at ht2
  subst ht1 ht2
  have x0 := hx.c0
  have x1 := hx.c1
  clear lx ln hX hN
  go_wp2_with fail
  refine (CF1.out _ (Ext.refl _)).mono ?_
  rintro r w6 ⟨rfl, h6⟩
  have hy := hy.below h6
  have HE6 := Lib.hid h6
  clear x0 x1 hx h6
  have y0 := hy.c0
  have y1 := hy.c1
  have hcmp : ((ByteArray.mk #[45, 49]).toList == (ByteArray.mk #[45, 49]).toList) = true := by simp
  have hcmp2 : ((ByteArray.mk #[54]).toList == (ByteArray.mk #[54]).toList) = true := by simp
  go_wp2_with fail
  refine (CF2.out _ HE6.out).mono ?_
  rintro r w7 ⟨rfl, h7⟩
  have HE7 := Lib.hid ((HE5.out.trans HE6.out).trans h7)
  have C2 := Lib.hid (isPrime_any 2 w7 (HT.out.below HE7.out))
  have C9 := Lib.hid (isPrime_any 9 w7 (HT.out.below HE7.out))
  rw [mr2] at C2
  rw [mr9] at C9
  clear y0 y1 hy h7 CF1 CF2
  go_wp2_with fail
  refine C2.out.mono ?_
  rintro r w8 ⟨rfl, rfl⟩
  go_wp2_with fail
  refine C9.out.mono ?_
  rintro r w8 ⟨rfl, rfl⟩
  go_wp2
  go_ret
  exact ⟨rfl, HE7.out⟩
end Go.Proofs.YtlpclahlolhjfaaGreatDoor

namespace Go.Proofs.YtlpclahlolhjfaaGreatDoor

theorem inv_run {a p : Nat} (hp : 1 < p) (hp2 : p ≤ 4294967296) : invZ (a : Int) (p : Int) = ((pwk p 32 1 a (p - 2) : Nat) : Int) := by
  unfold invZ
  rw [pwk_spec p (by omega) 32 1 a (p - 2) (by omega) hp, Nat.one_mul, show ((p : Int) - 2).toNat = p - 2 by omega]
  rfl
theorem inv_fact (N p : Nat) (hp : 1 < p) (hp2 : p ≤ 4294967296) (h : ((N : Int) * ((pwk p 32 1 (N % p) (p - 2) : Nat) : Int) - 1) % (p : Int) = 0) : (p : Int) ∣ (N : Int) * invZ ((N : Int) % (p : Int)) (p : Int) - 1 := by
  have := inv_run (a := N % p) hp hp2
  rw [Int.natCast_emod] at this
  rw [this]
  exact Int.dvd_of_emod_eq_zero h
theorem mr_run {p : Nat} (h1 : 1 < p) (h2 : p ≤ 2147483647) (h : mrK p = true) : mr (p : Int) = true := by
  unfold mr
  rw [decide_eq_true (show 2 ≤ (p : Int) ∧ (p : Int) ≤ 2147483647 by omega), Bool.true_and, show ((p : Int)).toNat = p from rfl, ← mrK_eq h1 (by omega)]
  exact h
end Go.Proofs.YtlpclahlolhjfaaGreatDoor

namespace Go.Proofs.YtlpclahlolhjfaaGreatDoor
theorem range0 : chk 2 9998 = true := by decide +kernel
theorem range1 : chk 10000 10000 = true := by decide +kernel
theorem range2 : chk 20000 10000 = true := by decide +kernel
theorem range3 : chk 30000 10000 = true := by decide +kernel
end Go.Proofs.YtlpclahlolhjfaaGreatDoor

namespace Go.Proofs.YtlpclahlolhjfaaGreatDoor
theorem range4 : chk 40000 10000 = true := by decide +kernel
theorem range5 : chk 50000 10000 = true := by decide +kernel
theorem range6 : chk 60000 10000 = true := by decide +kernel
end Go.Proofs.YtlpclahlolhjfaaGreatDoor

namespace Go.Proofs.YtlpclahlolhjfaaGreatDoor
theorem range7 : chk 70000 10000 = true := by decide +kernel
theorem range8 : chk 80000 10000 = true := by decide +kernel
theorem range9 : chk 90000 10000 = true := by decide +kernel
theorem top_range : chkT 2147483587 61 = true := by decide +kernel
end Go.Proofs.YtlpclahlolhjfaaGreatDoor

namespace Go.Proofs.YtlpclahlolhjfaaGreatDoor
theorem small_agree {p : Nat} (h2 : 2 ≤ p) (h : p < 100000) : mrB p [2, 3, 5, 7] = true ↔ noDiv p 2 := by
  have key : mrK p = !listDiv p smallPrimes := by
    rcases Nat.lt_or_ge p 10000 with h' | h'
    · exact chk_spec range0 p h2 (by omega)
    rcases Nat.lt_or_ge p 20000 with h' | h'
    · exact chk_spec range1 p (by omega) (by omega)
    rcases Nat.lt_or_ge p 30000 with h' | h'
    · exact chk_spec range2 p (by omega) (by omega)
    rcases Nat.lt_or_ge p 40000 with h' | h'
    · exact chk_spec range3 p (by omega) (by omega)
    rcases Nat.lt_or_ge p 50000 with h' | h'
    · exact chk_spec range4 p (by omega) (by omega)
    rcases Nat.lt_or_ge p 60000 with h' | h'
    · exact chk_spec range5 p (by omega) (by omega)
    rcases Nat.lt_or_ge p 70000 with h' | h'
    · exact chk_spec range6 p (by omega) (by omega)
    rcases Nat.lt_or_ge p 80000 with h' | h'
    · exact chk_spec range7 p (by omega) (by omega)
    rcases Nat.lt_or_ge p 90000 with h' | h'
    · exact chk_spec range8 p (by omega) (by omega)
    exact chk_spec range9 p (by omega) (by omega)
  rw [← mrK_eq (by omega) (by omega), key, ← small_noDiv (by omega)]
  cases listDiv p smallPrimes <;> simp
theorem top_agree {p : Nat} (h2 : 2147483587 ≤ p) (h : p ≤ 2147483647) : mrB p [2, 3, 5, 7] = true ↔ noDiv p 2 := by
  rw [← mrK_eq (by omega) (by omega), chkT_spec top_range p (by omega) (by omega), ← anyDiv_noDiv (p := p) (t := 46340) (n := 46339) rfl (by omega)]
  cases anyDiv p 46340 46339 <;> simp
/-- where the test is the trial -/
theorem mr_isP {p : Int} (h : p < 100000 ∨ 2147483587 ≤ p) : mr p = isP p := by
  refine (isP_of ?_).symm
  unfold mr
  by_cases h1 : 2 ≤ p ∧ p ≤ 2147483647
  · obtain ⟨n, rfl⟩ := Int.eq_ofNat_of_zero_le (show 0 ≤ p by omega)
    have hk : mrB n [2, 3, 5, 7] = true ↔ noDiv n 2 := by
      rcases h with h | h
      · exact small_agree (by omega) (by omega)
      · exact top_agree (by omega) (by omega)
    rw [show ((n : Int)).toNat = n from rfl, decide_eq_true h1, Bool.true_and, hk]
    exact ⟨fun h => ⟨h1.1, h1.2, h⟩, fun h => h.2.2⟩
  · rw [decide_eq_false h1, Bool.false_and]
    exact ⟨fun h => (by cases h), fun h => absurd ⟨h.1, h.2.1⟩ h1⟩
end Go.Proofs.YtlpclahlolhjfaaGreatDoor
