import Derived.Test.YtlpclahlolhjfaaDoorMoPlU31
import Derived.Test.YtlpclahlolhjfaaDoorMoPlU46
namespace Go.Proofs.YtlpclahlolhjfaaDoor
open Go Go.RowKit

set_option maxRecDepth 100000 in
set_option maxHeartbeats 8000000 in
theorem mprimes_any (p below n : Int) (w : World) (hbl : -9223372036854775808 ≤ below ∧ below ≤ 9223372036854775807) (hT : Table64 w) (hP : Pow10 w) :
    Calls Tryd.prog 3 #[.int .i64 p, .int .i64 below, .int .i64 n] w fun e w' => e = .returned (.bool true) ∧ Ext w w' := by
  have HT := Lib.hid hT
  have HAW := Lib.hid (show ∀ wx, Ext w wx → Calls Tryd.prog 5 #[] wx fun e w' => e = .returned (.bool true) ∧ Ext wx w' from fun wx h => mawake_any wx (hT.below h) (hP.below h))
  have HE0 := Lib.hid (Ext.refl w)
  clear hT hP
  go_enter Tryd.func3, Tryd.ntmps3
  go_wp2_with fail
  refine (modulus_any p _).mono ?_
  by_cases hmod : p < 100000 ∨ 2147483637 < p
  · rw [decide_eq_true hmod]
    rintro e w2 ⟨rfl, rfl⟩
    have HMI := Lib.hid (show mr p = isP p from mr_isP (by omega))
    clear hmod
    by_cases hb : 5000 < below
    · by_cases hb2 : below ≤ 2147483637
      · go_wp2_with fail
        refine (HAW.out _ HE0.out).mono ?_
        rintro e wa ⟨rfl, hwa⟩
        have HEA := Lib.hid (HE0.out.trans hwa)
        clear hwa
        go_wp2
        go_ret
        exact ⟨rfl, HEA.out⟩

      · by_cases hn4 : 4 < n
        · have hb3 : 1000 < below := by omega
          go_wp2_with fail
          refine (HAW.out _ HE0.out).mono ?_
          rintro e wa ⟨rfl, hwa⟩
          have HEA := Lib.hid (HE0.out.trans hwa)
          clear hwa
          go_wp2
          go_ret
          exact ⟨rfl, HEA.out⟩
        · have hb4 : 2147483637 < below := by omega
          by_cases hn2 : 2 < n
          · have hn3 : ¬ n ≤ 2 := by omega
            have HAG := Lib.hid (primes_agree (below := below) (n := 2) (Or.inr ⟨hb4, by omega⟩))
            obtain ⟨Z, hZ⟩ : ∃ Z, primesZ fIs (fromP below).toNat (wantP 2).toNat = Z := ⟨_, rfl⟩
            have HZL := Lib.hid (show Z.length ≤ 100 by rw [← hZ]; exact Nat.le_trans primesZ_len (by unfold wantP; omega))
            have CA := Lib.hid (fun wx (h : Ext w wx) => primes_any below 2 hbl wx (HT.out.below h))
            have CB := Lib.hid (fun wx => refPrimes_any below 2 hbl wx)
            have CI := Lib.hid (isPrime_any p w HT.out)
            have CR := Lib.hid (refIsPrime_any p w)
            rw [HMI.out] at CI
            obtain ⟨y, hy⟩ : ∃ y, isP p = y := ⟨_, rfl⟩
            rw [hy] at CI CR
            rw [HAG.out, hZ] at CA
            rw [hZ] at CB
            clear hZ hy HAG HMI
            go_wp2_with fail
            refine CI.out.mono ?_
            rintro e w3 ⟨rfl, rfl⟩
            go_wp2_with fail
            refine CR.out.mono ?_
            rintro e w3 ⟨rfl, rfl⟩
            clear CI CR
            go_wp2_with fail
            refine (CA.out _ (Ext.refl _)).mono ?_
            rintro e w4 ⟨v4, rfl, ho4, h4⟩
            obtain ⟨a4, c4, rfl, hn4⟩ := ho4.sl
            have HN4 := Lib.hid hn4
            have HE4 := Lib.hid h4
            clear CA ho4 hn4 h4
            go_wp2_with fail
            refine (CB.out _).mono ?_
            rintro e w5 ⟨v5, rfl, ho5, h5⟩
            obtain ⟨a5, c5, rfl, hn5⟩ := ho5.sl
            have HN5 := Lib.hid hn5
            have HE5 := Lib.hid h5
            clear CB ho5 hn5 h5
            go_wp2_with fail
            refine (ints_any _ _ _ _ _ _ Z Z _ (HN4.out.below HE5.out) HN5.out (by have := HZL.out; omega)).mono ?_
            rw [decide_eq_true (rfl : Z = Z)]
            rintro e w6 ⟨rfl, h6⟩
            have HE6 := Lib.hid (HE4.out.trans (HE5.out.trans h6))
            clear h6 HN4 HN5
            go_wp2_with fail
            refine (HAW.out _ HE6.out).mono ?_
            rintro e wa ⟨rfl, hwa⟩
            have HEA := Lib.hid (HE6.out.trans hwa)
            clear hwa
            go_wp2
            go_ret
            exact ⟨rfl, HEA.out⟩
          · have hn3 : n ≤ 2 := by omega
            have HAG := Lib.hid (primes_agree (below := below) (n := n) (Or.inr ⟨hb4, hn3⟩))
            obtain ⟨Z, hZ⟩ : ∃ Z, primesZ fIs (fromP below).toNat (wantP n).toNat = Z := ⟨_, rfl⟩
            have HZL := Lib.hid (show Z.length ≤ 100 by rw [← hZ]; exact Nat.le_trans primesZ_len (by unfold wantP; omega))
            have CA := Lib.hid (fun wx (h : Ext w wx) => primes_any below n hbl wx (HT.out.below h))
            have CB := Lib.hid (fun wx => refPrimes_any below n hbl wx)
            have CI := Lib.hid (isPrime_any p w HT.out)
            have CR := Lib.hid (refIsPrime_any p w)
            rw [HMI.out] at CI
            obtain ⟨y, hy⟩ : ∃ y, isP p = y := ⟨_, rfl⟩
            rw [hy] at CI CR
            rw [HAG.out, hZ] at CA
            rw [hZ] at CB
            clear hZ hy HAG HMI
            go_wp2_with fail
            refine CI.out.mono ?_
            rintro e w3 ⟨rfl, rfl⟩
            go_wp2_with fail
            refine CR.out.mono ?_
            rintro e w3 ⟨rfl, rfl⟩
            clear CI CR
            go_wp2_with fail
            refine (CA.out _ (Ext.refl _)).mono ?_
            rintro e w4 ⟨v4, rfl, ho4, h4⟩
            obtain ⟨a4, c4, rfl, hn4⟩ := ho4.sl
            have HN4 := Lib.hid hn4
            have HE4 := Lib.hid h4
            clear CA ho4 hn4 h4
            go_wp2_with fail
            refine (CB.out _).mono ?_
            rintro e w5 ⟨v5, rfl, ho5, h5⟩
            obtain ⟨a5, c5, rfl, hn5⟩ := ho5.sl
            have HN5 := Lib.hid hn5
            have HE5 := Lib.hid h5
            clear CB ho5 hn5 h5
            go_wp2_with fail
            refine (ints_any _ _ _ _ _ _ Z Z _ (HN4.out.below HE5.out) HN5.out (by have := HZL.out; omega)).mono ?_
            rw [decide_eq_true (rfl : Z = Z)]
            rintro e w6 ⟨rfl, h6⟩
            have HE6 := Lib.hid (HE4.out.trans (HE5.out.trans h6))
            clear h6 HN4 HN5
            go_wp2_with fail
            refine (HAW.out _ HE6.out).mono ?_
            rintro e wa ⟨rfl, hwa⟩
            have HEA := Lib.hid (HE6.out.trans hwa)
            clear hwa
            go_wp2
            go_ret
            exact ⟨rfl, HEA.out⟩
    · have hb4 : ¬ 2147483637 < below := by omega
      have hb5 : below ≤ 5000 := by omega
      by_cases hn4 : 4 < n
      · by_cases hb3 : 1000 < below
        · go_wp2_with fail
          refine (HAW.out _ HE0.out).mono ?_
          rintro e wa ⟨rfl, hwa⟩
          have HEA := Lib.hid (HE0.out.trans hwa)
          clear hwa
          go_wp2
          go_ret
          exact ⟨rfl, HEA.out⟩

        · have hb6 : below ≤ 1000 := by omega
          have HAG := Lib.hid (primes_agree (below := below) (n := n) (Or.inl hb5))
          obtain ⟨Z, hZ⟩ : ∃ Z, primesZ fIs (fromP below).toNat (wantP n).toNat = Z := ⟨_, rfl⟩
          have HZL := Lib.hid (show Z.length ≤ 100 by rw [← hZ]; exact Nat.le_trans primesZ_len (by unfold wantP; omega))
          have CA := Lib.hid (fun wx (h : Ext w wx) => primes_any below n hbl wx (HT.out.below h))
          have CB := Lib.hid (fun wx => refPrimes_any below n hbl wx)
          have CI := Lib.hid (isPrime_any p w HT.out)
          have CR := Lib.hid (refIsPrime_any p w)
          rw [HMI.out] at CI
          obtain ⟨y, hy⟩ : ∃ y, isP p = y := ⟨_, rfl⟩
          rw [hy] at CI CR
          rw [HAG.out, hZ] at CA
          rw [hZ] at CB
          clear hZ hy HAG HMI
          go_wp2_with fail
          refine CI.out.mono ?_
          rintro e w3 ⟨rfl, rfl⟩
          go_wp2_with fail
          refine CR.out.mono ?_
          rintro e w3 ⟨rfl, rfl⟩
          clear CI CR
          go_wp2_with fail
          refine (CA.out _ (Ext.refl _)).mono ?_
          rintro e w4 ⟨v4, rfl, ho4, h4⟩
          obtain ⟨a4, c4, rfl, hn4⟩ := ho4.sl
          have HN4 := Lib.hid hn4
          have HE4 := Lib.hid h4
          clear CA ho4 hn4 h4
          go_wp2_with fail
          refine (CB.out _).mono ?_
          rintro e w5 ⟨v5, rfl, ho5, h5⟩
          obtain ⟨a5, c5, rfl, hn5⟩ := ho5.sl
          have HN5 := Lib.hid hn5
          have HE5 := Lib.hid h5
          clear CB ho5 hn5 h5
          go_wp2_with fail
          refine (ints_any _ _ _ _ _ _ Z Z _ (HN4.out.below HE5.out) HN5.out (by have := HZL.out; omega)).mono ?_
          rw [decide_eq_true (rfl : Z = Z)]
          rintro e w6 ⟨rfl, h6⟩
          have HE6 := Lib.hid (HE4.out.trans (HE5.out.trans h6))
          clear h6 HN4 HN5
          go_wp2_with fail
          refine (HAW.out _ HE6.out).mono ?_
          rintro e wa ⟨rfl, hwa⟩
          have HEA := Lib.hid (HE6.out.trans hwa)
          clear hwa
          go_wp2
          go_ret
          exact ⟨rfl, HEA.out⟩
      · have hn5 : n ≤ 4 := by omega
        have HAG := Lib.hid (primes_agree (below := below) (n := n) (Or.inl hb5))
        obtain ⟨Z, hZ⟩ : ∃ Z, primesZ fIs (fromP below).toNat (wantP n).toNat = Z := ⟨_, rfl⟩
        have HZL := Lib.hid (show Z.length ≤ 100 by rw [← hZ]; exact Nat.le_trans primesZ_len (by unfold wantP; omega))
        have CA := Lib.hid (fun wx (h : Ext w wx) => primes_any below n hbl wx (HT.out.below h))
        have CB := Lib.hid (fun wx => refPrimes_any below n hbl wx)
        have CI := Lib.hid (isPrime_any p w HT.out)
        have CR := Lib.hid (refIsPrime_any p w)
        rw [HMI.out] at CI
        obtain ⟨y, hy⟩ : ∃ y, isP p = y := ⟨_, rfl⟩
        rw [hy] at CI CR
        rw [HAG.out, hZ] at CA
        rw [hZ] at CB
        clear hZ hy HAG HMI
        go_wp2_with fail
        refine CI.out.mono ?_
        rintro e w3 ⟨rfl, rfl⟩
        go_wp2_with fail
        refine CR.out.mono ?_
        rintro e w3 ⟨rfl, rfl⟩
        clear CI CR
        go_wp2_with fail
        refine (CA.out _ (Ext.refl _)).mono ?_
        rintro e w4 ⟨v4, rfl, ho4, h4⟩
        obtain ⟨a4, c4, rfl, hn4⟩ := ho4.sl
        have HN4 := Lib.hid hn4
        have HE4 := Lib.hid h4
        clear CA ho4 hn4 h4
        go_wp2_with fail
        refine (CB.out _).mono ?_
        rintro e w5 ⟨v5, rfl, ho5, h5⟩
        obtain ⟨a5, c5, rfl, hn5⟩ := ho5.sl
        have HN5 := Lib.hid hn5
        have HE5 := Lib.hid h5
        clear CB ho5 hn5 h5
        go_wp2_with fail
        refine (ints_any _ _ _ _ _ _ Z Z _ (HN4.out.below HE5.out) HN5.out (by have := HZL.out; omega)).mono ?_
        rw [decide_eq_true (rfl : Z = Z)]
        rintro e w6 ⟨rfl, h6⟩
        have HE6 := Lib.hid (HE4.out.trans (HE5.out.trans h6))
        clear h6 HN4 HN5
        go_wp2_with fail
        refine (HAW.out _ HE6.out).mono ?_
        rintro e wa ⟨rfl, hwa⟩
        have HEA := Lib.hid (HE6.out.trans hwa)
        clear hwa
        go_wp2
        go_ret
        exact ⟨rfl, HEA.out⟩
  · rw [decide_eq_false hmod]
    rintro e w2 ⟨rfl, rfl⟩
    clear hmod
    go_wp2_with fail
    refine (HAW.out _ HE0.out).mono ?_
    rintro e wa ⟨rfl, hwa⟩
    have HEA := Lib.hid (HE0.out.trans hwa)
    clear hwa
    go_wp2
    go_ret
    exact ⟨rfl, HEA.out⟩
end Go.Proofs.YtlpclahlolhjfaaDoor
