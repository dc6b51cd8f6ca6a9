import Derived.Test.YtlpclahlolhjfaaGreatDoorMoCoU25
import Derived.Test.YtlpclahlolhjfaaGreatDoorMoCoU14
import Derived.Test.YtlpclahlolhjfaaGreatDoorMoCoU0
import Derived.Laws.Bits64b
import Derived.WalkKit
namespace Go.Proofs.YtlpclahlolhjfaaGreatDoor
open Go.RowKit

set_option maxRecDepth 100000 in
set_option maxHeartbeats 8000000 in
theorem refTake_any (g j n nu cu cd : Nat) (U ds : List Int) (T : List Value) (bo : Option Addr) (q : Int) (w : World) (hU : U.length = nu) (hj : j + (n + 1) ≤ nu) (hnu : nu ≤ 1000000000) (hwU : Wf U) (hB : UB w g U T)
    (hd : Sl w bo n cd ds) (hst : Stay g w bo ds) (q0 : 0 ≤ q) (q1 : q ≤ 4294967295) :
    Calls Tryz.prog 122 #[.slice (some ⟨g, 0, none⟩) nu cu, .slice bo n cd, .int .i64 (j : Int), .int .u64 q] w fun e w' =>
      (e = .returned (.bool false) ∧ num ((U.drop j).take (n + 1)) < q * num ds ∧ Below w.heap.size w w') ∨
      (e = .returned (.bool true) ∧ ∃ V', V'.length = n + 1 ∧ Wf V' ∧ num V' = num ((U.drop j).take (n + 1)) - q * num ds ∧ UB w' g (U.take j ++ (V' ++ U.drop (j + (n + 1)))) T ∧ ∃ w1, Below w.heap.size w w1 ∧ Only g w1 w') := by
  obtain ⟨V, hV⟩ : ∃ V, (U.drop j).take (n + 1) = V := ⟨_, rfl⟩
  have hVl : V.length = n + 1 := by rw [← hV, List.length_take, List.length_drop]; omega
  have hwV : Wf V := by rw [← hV]; exact (hwU.drop j).take _
  have hVg : ∀ i, i < n + 1 → V.getD i 0 = U.getD (j + i) 0 := fun i hi => by rw [← hV]; exact getD_window U j (n + 1) i hi
  rw [hV]
  have hdl := hd.len
  have hwd := hd.wf
  have HU := Lib.hid hU; clear hU
  have HV := Lib.hid hVl; clear hVl
  have HVG := Lib.hid hVg; clear hVg
  have HD := Lib.hid hdl; clear hdl
  have HVU := Lib.hid hV; clear hV
  have HST := Lib.hid hst; clear hst
  go_enter Tryz.func122, Tryz.ntmps122
  go_wp2_with (refine wpList_make_u32 _ rfl _ _ rfl _ (n + 1) rfl rfl (by omega) (by omega) ?_)
  intro w1 hb1 hw1
  have hB1 := hB.below hw1
  have hd1 := hd.cells.stay_below (g := w.heap.size) hw1 (Nat.le_refl _)
  have hgl := hB.lt
  generalize hGe : w.heap.size = G at *
  have HGe := Lib.hid hGe; clear hGe
  have hgG : g ≠ G := by omega
  have HW1 := Lib.hid hw1
  clear hB hw1
  go_wp2
  go_loopw [11, 12, 13, 14] (fun b c i _ wr => ∃ (k : Nat) (bb cc : Int) (L : List Int), k ≤ n + 1 ∧ i = .int .i64 (k : Int) ∧ b = .int .u64 bb ∧ c = .int .u64 cc ∧ 0 ≤ bb ∧ bb ≤ 1 ∧ 0 ≤ cc ∧ cc ≤ 4294967295 ∧ (k = n + 1 → cc = 0) ∧ Minus V ds q k L (cc + bb) ∧ Blk wr G (L ++ List.replicate (n + 1 - k) 0) ∧ Only G w1 wr) (fun _ _ i _ _ => n + 1 - (intOf i).toNat)
  case atStart => exact ⟨0, 0, 0, [], Nat.zero_le _, rfl, rfl, rfl, by omega, by omega, by omega, by omega, by omega, Minus.start V ds q, hb1, Only.refl G w1⟩
  case round =>
    obtain ⟨k, bb, cc, L, hk, rfl, rfl, rfl, b0, b1, c0, c1, hcl, hM, hbk, ho⟩ := hrel
    have HM := Lib.hid hM; clear hM
    have HCL := Lib.hid hcl; clear hcl
    by_cases hlt : k < n + 1
    · obtain ⟨x, hx⟩ : ∃ x, V.getD k 0 = x := ⟨_, rfl⟩
      have hxr := hwV.getD k
      rw [hx] at hxr
      obtain ⟨x0, x1⟩ := hxr
      have cu := (hB1.only ho hgG).cell (j + k) (by rw [HU.out]; omega)
      rw [← HVG.out k hlt, hx, Nat.add_comm j k] at cu
      have HX := Lib.hid hx; clear hx
      have hfr := hbk.frozen k
      obtain ⟨m, hm⟩ : ∃ m, n + 1 - k = m + 1 := ⟨n - k, by omega⟩
      have hml : n + 1 - (k + 1) = m := by omega
      have hL1 := HM.out.1
      have hcG := hbk.cell k (by simp [hL1]; omega)
      have hbk2 := fun z => by have h := hbk; rw [hm] at h; exact blk_grow (z := z) h hL1
      have HBK := Lib.hid hbk2
      have HO := Lib.hid ho
      clear hbk2 hL1 hm
      by_cases h2 : k < n
      · obtain ⟨bd, od, rfl, hc⟩ := hd1 _ ho (by rw [HD.out]; omega)
        have cd := hc k (by rw [HD.out]; omega)
        obtain ⟨y, hy⟩ : ∃ y, ds.getD k 0 = y := ⟨_, rfl⟩
        have hyr := hwd.getD k
        rw [hy] at hyr cd
        have HY := Lib.hid hy; clear hy hc
        obtain ⟨y0, y1⟩ := hyr
        obtain ⟨p0, p1⟩ := mul_bounds q0 (show q < 4294967296 by omega) y0 y1
        have HWD := Lib.hid (minus_word x y q cc bb x0 x1 p0 p1 c0 c1 b0 b1)
        have hwm : IntKind.u64.wrap (q * y) = q * y := by rw [IntKind.wrap_u64]; exact Int.emod_eq_of_lt p0 (by omega)
        have hwa : IntKind.u64.wrap (cc + q * y) = cc + q * y := by rw [IntKind.wrap_u64]; exact Int.emod_eq_of_lt (by omega) (by omega)
        have hand := and_mask (a := cc + q * y) (by omega) (by omega)
        clear ho hbk
        go_wp2
        go_roundw
        case rel =>
          refine ⟨k + 1, _, _, _, by omega, by go_num, rfl, rfl, HWD.out.2.2.1, HWD.out.2.2.2.1, HWD.out.1, HWD.out.2.1, fun h => by omega, HM.out.step ⟨Int.emod_nonneg _ (by omega), Int.emod_lt_of_pos _ (by omega)⟩ (HWD.out.2.2.2.2.trans (by rw [HX.out, HY.out])), ?_, HO.out.setCell _ _⟩
          rw [hml]; exact HBK.out _
        case measure => simp [intOf] <;> omega
      · obtain rfl : k = n := by omega
        have hy0 : ds.getD k 0 = 0 := getD_past (by rw [HD.out]; omega)
        have HY := Lib.hid hy0; clear hy0
        have HWD := Lib.hid (minus_last x cc bb x0 x1 c0 c1 b0 b1)
        have hand := and_mask (a := cc) (by omega) (by omega)
        have hdv : cc / 4294967296 = 0 := by omega
        clear ho hbk
        go_wp2
        go_roundw
        case rel =>
          refine ⟨k + 1, _, _, _, by omega, by go_num, rfl, rfl, HWD.out.1, HWD.out.2.1, by omega, by omega, fun _ => by omega, HM.out.step ⟨Int.emod_nonneg _ (by omega), Int.emod_lt_of_pos _ (by omega)⟩ (HWD.out.2.2.trans (by rw [HX.out, HY.out, Int.mul_zero, Int.sub_zero, Int.zero_add])), ?_, HO.out.setCell _ _⟩
          rw [hml]; exact HBK.out _
        case measure => simp [intOf] <;> omega
    · obtain rfl : k = n + 1 := by omega
      obtain rfl := HCL.out rfl
      obtain ⟨hL1, hL2, hL3⟩ := HM.out
      rw [List.take_of_length_le (by rw [HV.out]; exact Nat.le_refl _), List.take_of_length_le (by rw [HD.out]; omega), Int.zero_add] at hL3
      have hlt1 := num_lt hL2
      have hnn := num_nonneg hL2
      have hvl := num_lt hwV
      rw [hL1] at hlt1
      rw [HV.out] at hvl
      have hdn := num_nonneg hwd
      have hpn := pow_pos' (n + 1)
      have hqd := Int.mul_nonneg q0 hdn
      rw [Nat.sub_self, List.replicate_zero, List.append_nil] at hbk
      rcases (show bb = 0 ∨ bb = 1 by omega) with rfl | rfl
      · rw [Int.mul_zero, Int.add_zero] at hL3
        have HL3 := Lib.hid hL3
        have HL2 := Lib.hid hL2
        have hUr := hB1.only ho hgG
        have HOW := Lib.hid ho
        have hszr : g < wr.heap.size := hUr.lt
        clear hL3 hL2 hlt1 hnn hvl hdn hpn hqd ho
        go_wp2
        go_loopw [15] (fun i wx => ∃ (k : Nat), k ≤ n + 1 ∧ i = .int .i64 (k : Int) ∧ UB wx g (U.take j ++ (L.take k ++ U.drop (j + k))) T ∧ Only g wr wx) (fun i _ => n + 1 - (intOf i).toNat)
        case atStart => exact ⟨0, Nat.zero_le _, rfl, by simpa using hUr, Only.refl g wr⟩
        case round =>
          obtain ⟨k, hk, rfl, hu, ho⟩ := hrel
          have hkl : (U.take j ++ (L.take k ++ U.drop (j + k))).length = nu := by
            simp only [List.length_append, List.length_take, List.length_drop, HU.out, hL1]; omega
          by_cases hlt : k < n + 1
          · have cg := (hbk.only ho (Ne.symm hgG)).cell k (by rw [hL1]; exact hlt)
            have cu := hu.cell (j + k) (by rw [hkl]; omega)
            have fu := hu.frozen (j + k)
            rw [Nat.add_comm j k] at cu fu
            obtain ⟨z, hz⟩ : ∃ z, L.getD k 0 = z := ⟨_, rfl⟩
            rw [hz] at cg
            have hset : (U.take j ++ (L.take k ++ U.drop (j + k))).set (k + j) z = U.take j ++ (L.take (k + 1) ++ U.drop (j + (k + 1))) := by
              have l1 : (U.take j).length = j := by rw [List.length_take, HU.out]; omega
              have l2 : (L.take k).length = k := by rw [List.length_take, hL1]; omega
              rw [List.set_append_right _ _ (by omega), l1, Nat.add_sub_cancel, List.set_append_right _ _ (by omega), l2, Nat.sub_self]
              rw [List.drop_eq_getElem_cons (show j + k < U.length by rw [HU.out]; omega), List.set_cons_zero, List.take_succ_eq_append_getElem (show k < L.length by omega)]
              rw [← hz, List.getD, List.getElem?_eq_getElem (show k < L.length by omega), List.append_assoc]
              rfl
            have hu2 := hu.set (k + j) z (by rw [hkl]; omega)
            rw [hset] at hu2
            have HU2 := Lib.hid hu2
            have HO2 := Lib.hid ho
            clear hu2 hset hu ho hz hkl
            go_wp2
            go_roundw
            case rel => exact ⟨k + 1, by omega, by go_num, HU2.out, HO2.out.setCell _ _⟩
            case measure => simp [intOf] <;> omega
          · obtain rfl : k = n + 1 := by omega
            rw [List.take_of_length_le (show L.length ≤ n + 1 by omega)] at hu
            have HU2 := Lib.hid hu
            have HO2 := Lib.hid ho
            clear hu ho hkl
            go_wp2
            go_ret
            refine Or.inr ⟨rfl, L, hL1, HL2.out, HL3.out, HU2.out, _, ?_, HO2.out⟩
            rw [HGe.out]; exact HW1.out.trans (HOW.out.below (Nat.le_refl _))
      · have hneg : num V < q * num ds := by omega
        have HN := Lib.hid hneg
        have HOW := Lib.hid ho
        clear hL3 hL2 hlt1 hnn hvl hdn hpn hqd hneg ho hbk
        go_wp2
        go_ret
        refine Or.inl ⟨rfl, HN.out, ?_⟩
        rw [HGe.out]; exact HW1.out.trans (HOW.out.below (Nat.le_refl _))
end Go.Proofs.YtlpclahlolhjfaaGreatDoor

namespace Go.Proofs.YtlpclahlolhjfaaGreatDoor

def fmag (f : Nat) : Nat := f % 9223372036854775808
def ffld (f : Nat) : Nat := fmag f / 4503599627370496
/-- the significand -/
def sig (f : Nat) : Nat := if ffld f = 0 then fmag f else fmag f % 4503599627370496 + 4503599627370496
/-- the exponent of the last place, above the least one -/
def fsh (f : Nat) : Nat := ffld f - 1
/-- the absolute value in units of the least float -/
def fz (f : Nat) : Nat := sig f * 2 ^ fsh f
end Go.Proofs.YtlpclahlolhjfaaGreatDoor

namespace Go.Proofs.YtlpclahlolhjfaaGreatDoor

theorem or_add {a b k : Nat} (hb : b < 2 ^ k) (h : a * 2 ^ k + b < 18446744073709551616) : bits BinOp.or IntKind.u64 ((a * 2 ^ k : Nat) : Int) (b : Int) = ((a * 2 ^ k + b : Nat) : Int) := by
  rw [bits_or_u64_nat _ _ (by omega) (by omega), Nat.mul_comm a, Nat.two_pow_add_eq_or_of_lt hb]

end Go.Proofs.YtlpclahlolhjfaaGreatDoor
