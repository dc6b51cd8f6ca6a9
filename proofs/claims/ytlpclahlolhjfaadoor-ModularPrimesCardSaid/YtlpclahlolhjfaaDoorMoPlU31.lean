import Derived.Test.YtlpclahlolhjfaaDoorMoPlU30
import Derived.Test.YtlpclahlolhjfaaDoorMoPlU9
import Derived.Deep.CutRange
import Derived.RegionTactic
import Derived.Test.YtlpclahlolhjfaaDoorMoPlU10
namespace Go.Proofs.YtlpclahlolhjfaaDoor
open Go Go.RowKit

theorem OZ.sl {w : World} {B : Nat} {v : Value} {L : List Int} (h : OZ w B v L) : ∃ ao cap, v = .slice ao L.length cap ∧ Ns w ao L.length cap L := by
  by_cases h0 : L = []
  · subst h0
    obtain ⟨h1, h2⟩ := h
    rcases h2 with ⟨rfl, _⟩ | ⟨g, cap, cur, rfl, hb, hg, hn, hm, hs, ht⟩
    · exact ⟨none, 0, rfl, rfl, Nat.le_refl _, fun h => absurd h (by simp)⟩
    · exact ⟨_, cap, rfl, rfl, hn, fun h => absurd h (by simp)⟩
  · exact h.ns h0

set_option maxRecDepth 100000 in
set_option maxHeartbeats 8000000 in
theorem primes_any (below n : Int) (hbl : -9223372036854775808 ≤ below ∧ below ≤ 9223372036854775807) (w : World) (hT : Table64 w) : Calls Tryd.prog 9 #[.int .i64 below, .int .i64 n] w fun e w' => ∃ v, e = .returned v ∧ OZ w' w.heap.size v (primesZ fMr (fromP below).toNat (wantP n).toNat) ∧ Ext w w' := by
  obtain ⟨C, hC⟩ : ∃ C, w.heap.size = C := ⟨_, rfl⟩
  rw [hC]
  have HC := Lib.hid hC
  obtain ⟨R, hR⟩ : ∃ R, primesZ fMr (fromP below).toNat (wantP n).toNat = R := ⟨_, rfl⟩
  rw [hR]
  have HR0 := Lib.hid hR
  clear hC hR
  have HT := Lib.hid hT
  clear hT
  have HR := Lib.hid (show primesZ fMr (min (max below 2) 2147483648 - 1).toNat (min n 100).toNat = R from HR0.out)
  have HF := Lib.hid (show 1 ≤ min (max below 2) 2147483648 - 1 ∧ min (max below 2) 2147483648 - 1 ≤ 2147483647 from from_in below)
  have hwf : IntKind.i64.wrap (min (max below 2) 2147483648 - 1) = min (max below 2) 2147483648 - 1 := IntWalk.i64_in _ (by omega)
  clear HR0
  go_enter Tryd.func9, Tryd.ntmps9
  go_wp2
  go_loopw [5, 7] (fun rv iv wr => ∃ (p k : Int) (L : List Int), 1 ≤ p ∧ p ≤ 2147483647 ∧ iv = .int .i64 p ∧ OZ wr C rv L ∧ Hid (k = (min n 100) - (L.length : Int) ∧ L.length ≤ 100) ∧ Hid (L ++ primesZ fMr p.toNat k.toNat = R) ∧ Ext w wr)
    (fun _ iv _ => (intOf iv).toNat)
  case atStart => exact ⟨min (max below 2) 2147483648 - 1, (min n 100), [], HF.out.1, HF.out.2, rfl, OZ.nil _ _, Lib.hid ⟨by simp, by simp⟩, Lib.hid (by rw [List.nil_append]; exact HR.out), Ext.refl _⟩
  case round =>
    obtain ⟨p, k, L, hp1, hp2, rfl, hown, HK, HRR, hEx⟩ := hrel
    obtain ⟨ao, cap, rfl, hns⟩ := hown.sl
    obtain ⟨len, hlen⟩ : ∃ len, L.length = len := ⟨_, rfl⟩
    have HLEN := Lib.hid hlen
    rw [hlen] at hown HK hns ⊢
    have HOWN := Lib.hid hown
    have HE := Lib.hid hEx
    clear hown hns hlen
    by_cases h2 : 2 ≤ p
    · by_cases hk : (len : Int) < (min n 100)
      · have CP := Lib.hid (show Calls Tryd.prog 6 #[.int .i64 p] wr fun e w' => e = .returned (.bool (fMr p.toNat)) ∧ wr = w' from (isPrime_any p wr (HT.out.below HE.out)).mono fun e w' ⟨h, h'⟩ => ⟨by rw [h]; unfold fMr; rw [show ((p.toNat : Nat) : Int) = p by omega], h'⟩)
        have hp1w : IntKind.i64.wrap (p - 1) = p - 1 := IntWalk.i64_in _ (by omega)
        obtain ⟨m, hm⟩ : ∃ m, p - 1 = m := ⟨_, rfl⟩
        rw [hm] at hp1w
        have HM := Lib.hid hm
        have hp1w2 : IntKind.i64.wrap (p - 1) = m := by rw [hm]; exact hp1w
        clear hm
        go_wp2_with fail
        refine CP.out.mono ?_
        cases hq : fMr p.toNat with
        | false =>
          rintro e w3 ⟨rfl, rfl⟩
          have HRN := Lib.hid (show L ++ primesZ fMr m.toNat k.toNat = R by rw [← HRR.out, primesZ_no h2 (by have := HK.out; omega) hq, HM.out])
          clear hq CP
          go_wp2
          go_roundw
          case rel => exact ⟨m, k, L, by have := HM.out; omega, by have := HM.out; omega, by go_num, HOWN.out, Lib.hid (by rw [HLEN.out]; exact HK.out), HRN, HE.out⟩
          case measure => have := HM.out; simp [intOf]; omega
        | true =>
          rintro e w3 ⟨rfl, rfl⟩
          have HRN := Lib.hid (show (L ++ [p]) ++ primesZ fMr m.toNat (k - 1).toNat = R by rw [← HRR.out, primesZ_yes h2 (by have := HK.out; omega) hq, HM.out, List.append_assoc]; rfl)
          have hC9 : C ≤ wr.heap.size := by have := Below.size HE.out; have := HC.out; omega
          have hL9 : L.length ≤ 1000000 := by have := HK.out.2; have := HLEN.out; omega
          clear hq CP
          go_wp2_with (first | (at_builtin; refine wpList_append_z wr rfl (.tmp 26) (.tmp 28) rfl C _ L p rfl rfl HOWN.out hC9 hL9 ?_; intro v' w9 hown9 hB9) | go_in)
          have HE9 := Lib.hid (show Ext w w9 from Below.trans HE.out (by have h := hB9; have := HC.out; exact ⟨h.os, h.tape, h.output, h.size, fun k hk => h.block k (by omega)⟩))
          go_wp2
          go_roundw
          case rel => exact ⟨m, k - 1, L ++ [p], by have := HM.out; omega, by have := HM.out; omega, by go_num, hown9, Lib.hid ⟨by rw [List.length_append, HLEN.out]; have := HK.out; simp; omega, by rw [List.length_append, HLEN.out]; have := HK.out; simp; omega⟩, HRN, HE9.out⟩
          case measure => have := HM.out; simp [intOf]; omega
      · have hr : R = L := by rw [← HRR.out, primesZ_stop (Or.inr (by have := HK.out; omega)), List.append_nil]
        go_wp2
        go_ret
        exact ⟨.slice ao len cap, rfl, (by first | exact HOWN.out | (rw [hr]; exact HOWN.out)), HE.out⟩
    · have hr : R = L := by rw [← HRR.out, primesZ_stop (Or.inl (by omega)), List.append_nil]
      go_wp2
      go_ret
      exact ⟨.slice ao len cap, rfl, (by first | exact HOWN.out | (rw [hr]; exact HOWN.out)), HE.out⟩
end Go.Proofs.YtlpclahlolhjfaaDoor

namespace Go.Proofs.YtlpclahlolhjfaaDoor
open Go Go.RowKit

set_option maxRecDepth 100000 in
set_option maxHeartbeats 8000000 in
theorem refPrimes_any (below n : Int) (hbl : -9223372036854775808 ≤ below ∧ below ≤ 9223372036854775807) (w : World) : Calls Tryd.prog 10 #[.int .i64 below, .int .i64 n] w fun e w' => ∃ v, e = .returned v ∧ OZ w' w.heap.size v (primesZ fIs (fromP below).toNat (wantP n).toNat) ∧ Ext w w' := by
  obtain ⟨C, hC⟩ : ∃ C, w.heap.size = C := ⟨_, rfl⟩
  rw [hC]
  have HC := Lib.hid hC
  obtain ⟨R, hR⟩ : ∃ R, primesZ fIs (fromP below).toNat (wantP n).toNat = R := ⟨_, rfl⟩
  rw [hR]
  have HR0 := Lib.hid hR
  clear hC hR
  by_cases h1 : below ≤ 2
  · have hr : R = [] := by
      have := HR0.out
      rw [from_low h1, primesZ_stop (Or.inl (by omega))] at this
      exact this.symm
    go_enter Tryd.func10, Tryd.ntmps10
    go_wp2
    go_ret
    exact ⟨.slice none 0 0, rfl, by rw [hr]; exact OZ.nil _ _, Ext.refl _⟩
  · have HR := Lib.hid (show primesZ fIs (min below 2147483648 - 1).toNat (min n 100).toNat = R by rw [from_of h1]; exact HR0.out)
    have HF := Lib.hid (show 1 ≤ min below 2147483648 - 1 ∧ min below 2147483648 - 1 ≤ 2147483647 by omega)
    have hwf : IntKind.i64.wrap (min below 2147483648 - 1) = min below 2147483648 - 1 := IntWalk.i64_in _ (by omega)
    clear HR0
    go_enter Tryd.func10, Tryd.ntmps10
    go_wp2
    go_loopw [5, 6] (fun rv iv wr => ∃ (p k : Int) (L : List Int), 1 ≤ p ∧ p ≤ 2147483647 ∧ iv = .int .i64 p ∧ OZ wr C rv L ∧ Hid (k = (min n 100) - (L.length : Int) ∧ L.length ≤ 100) ∧ Hid (L ++ primesZ fIs p.toNat k.toNat = R) ∧ Ext w wr)
      (fun _ iv _ => (intOf iv).toNat)
    case atStart => exact ⟨min below 2147483648 - 1, (min n 100), [], HF.out.1, HF.out.2, rfl, OZ.nil _ _, Lib.hid ⟨by simp, by simp⟩, Lib.hid (by rw [List.nil_append]; exact HR.out), Ext.refl _⟩
    case round =>
      obtain ⟨p, k, L, hp1, hp2, rfl, hown, HK, HRR, hEx⟩ := hrel
      obtain ⟨ao, cap, rfl, hns⟩ := hown.sl
      obtain ⟨len, hlen⟩ : ∃ len, L.length = len := ⟨_, rfl⟩
      have HLEN := Lib.hid hlen
      rw [hlen] at hown HK hns ⊢
      have HOWN := Lib.hid hown
      have HE := Lib.hid hEx
      clear hown hns hlen
      by_cases h2 : 2 ≤ p
      · by_cases hk : (len : Int) < (min n 100)
        · have CP := Lib.hid (show Calls Tryd.prog 7 #[.int .i64 p] wr fun e w' => e = .returned (.bool (fIs p.toNat)) ∧ wr = w' from (refIsPrime_any p wr).mono fun e w' ⟨h, h'⟩ => ⟨by rw [h]; unfold fIs; rw [show ((p.toNat : Nat) : Int) = p by omega], h'⟩)
          have hp1w : IntKind.i64.wrap (p - 1) = p - 1 := IntWalk.i64_in _ (by omega)
          obtain ⟨m, hm⟩ : ∃ m, p - 1 = m := ⟨_, rfl⟩
          rw [hm] at hp1w
          have HM := Lib.hid hm
          have hp1w2 : IntKind.i64.wrap (p - 1) = m := by rw [hm]; exact hp1w
          clear hm
          go_wp2_with fail
          refine CP.out.mono ?_
          cases hq : fIs p.toNat with
          | false =>
            rintro e w3 ⟨rfl, rfl⟩
            have HRN := Lib.hid (show L ++ primesZ fIs m.toNat k.toNat = R by rw [← HRR.out, primesZ_no h2 (by have := HK.out; omega) hq, HM.out])
            clear hq CP
            go_wp2
            go_roundw
            case rel => exact ⟨m, k, L, by have := HM.out; omega, by have := HM.out; omega, by go_num, HOWN.out, Lib.hid (by rw [HLEN.out]; exact HK.out), HRN, HE.out⟩
            case measure => have := HM.out; simp [intOf]; omega
          | true =>
            rintro e w3 ⟨rfl, rfl⟩
            have HRN := Lib.hid (show (L ++ [p]) ++ primesZ fIs m.toNat (k - 1).toNat = R by rw [← HRR.out, primesZ_yes h2 (by have := HK.out; omega) hq, HM.out, List.append_assoc]; rfl)
            have hC9 : C ≤ wr.heap.size := by have := Below.size HE.out; have := HC.out; omega
            have hL9 : L.length ≤ 1000000 := by have := HK.out.2; have := HLEN.out; omega
            clear hq CP
            go_wp2_with (first | (at_builtin; refine wpList_append_z wr rfl (.tmp 26) (.tmp 28) rfl C _ L p rfl rfl HOWN.out hC9 hL9 ?_; intro v' w9 hown9 hB9) | go_in)
            have HE9 := Lib.hid (show Ext w w9 from Below.trans HE.out (by have h := hB9; have := HC.out; exact ⟨h.os, h.tape, h.output, h.size, fun k hk => h.block k (by omega)⟩))
            go_wp2
            go_roundw
            case rel => exact ⟨m, k - 1, L ++ [p], by have := HM.out; omega, by have := HM.out; omega, by go_num, hown9, Lib.hid ⟨by rw [List.length_append, HLEN.out]; have := HK.out; simp; omega, by rw [List.length_append, HLEN.out]; have := HK.out; simp; omega⟩, HRN, HE9.out⟩
            case measure => have := HM.out; simp [intOf]; omega
        · have hr : R = L := by rw [← HRR.out, primesZ_stop (Or.inr (by have := HK.out; omega)), List.append_nil]
          go_wp2
          go_ret
          exact ⟨.slice ao len cap, rfl, (by first | exact HOWN.out | (rw [hr]; exact HOWN.out)), HE.out⟩
      · have hr : R = L := by rw [← HRR.out, primesZ_stop (Or.inl (by omega)), List.append_nil]
        go_wp2
        go_ret
        exact ⟨.slice ao len cap, rfl, (by first | exact HOWN.out | (rw [hr]; exact HOWN.out)), HE.out⟩
end Go.Proofs.YtlpclahlolhjfaaDoor
