import Derived.Test.YtlpclahlolhjfaaGreatDoorMoRlU21
import Derived.Test.YtlpclahlolhjfaaGreatDoorMoRlU3
import Derived.Test.YtlpclahlolhjfaaGreatDoorMoRlU0
import Derived.Laws.Bits64b
import Derived.WalkKit
import Derived.Test.YtlpclahlolhjfaaGreatDoorMoRlU13
namespace Go.Proofs.YtlpclahlolhjfaaGreatDoor
open Go.RowKit

set_option maxRecDepth 100000 in
set_option maxHeartbeats 8000000 in
theorem refTake_any (g j n nu cu cd : Nat) (U ds : List Int) (T : List Value) (bo : Option Addr) (q : Int) (w : World) (hU : U.length = nu) (hj : j + (n + 1) ≤ nu) (hnu : nu ≤ 1000000000) (hwU : Wf U) (hB : UB w g U T)
    (hd : Sl w bo n cd ds) (hst : Stay g w bo ds) (q0 : 0 ≤ q) (q1 : q ≤ 4294967295) :
    Calls Tryz.prog 122 #[.slice (some ⟨g, 0, none⟩) nu cu, .slice bo n cd, .int .i64 (j : Int), .int .u64 q] w fun e w' =>
      (e = .returned (.bool false) ∧ num ((U.drop j).take (n + 1)) < q * num ds ∧ Below w.heap.size w w') ∨
      (e = .returned (.bool true) ∧ ∃ V', V'.length = n + 1 ∧ Wf V' ∧ num V' = num ((U.drop j).take (n + 1)) - q * num ds ∧ UB w' g (U.take j ++ (V' ++ U.drop (j + (n + 1)))) T ∧ ∃ w1, Below w.heap.size w w1 ∧ Only g w1 w') := by
  obtain ⟨V, hV⟩ : ∃ V, (U.drop j).take (n + 1) = V := ⟨_, rfl⟩
  have hVl : V.length = n + 1 := by rw [← hV, List.length_take, List.length_drop]; omega
  have hwV : Wf V := by rw [← hV]; exact (hwU.drop j).take _
  have hVg : ∀ i, i < n + 1 → V.getD i 0 = U.getD (j + i) 0 := fun i hi => by rw [← hV]; exact getD_window U j (n + 1) i hi
  rw [hV]
  have hdl := hd.len
  have hwd := hd.wf
  have HU := Lib.hid hU; clear hU
  have HV := Lib.hid hVl; clear hVl
  have HVG := Lib.hid hVg; clear hVg
  have HD := Lib.hid hdl; clear hdl
  have HVU := Lib.hid hV; clear hV
  have HST := Lib.hid hst; clear hst
  go_enter Tryz.func122, Tryz.ntmps122
  go_wp2_with (refine wpList_make_u32 _ rfl _ _ rfl _ (n + 1) rfl rfl (by omega) (by omega) ?_)
  intro w1 hb1 hw1
  have hB1 := hB.below hw1
  have hd1 := hd.cells.stay_below (g := w.heap.size) hw1 (Nat.le_refl _)
  have hgl := hB.lt
  generalize hGe : w.heap.size = G at *
  have HGe := Lib.hid hGe; clear hGe
  have hgG : g ≠ G := by omega
  have HW1 := Lib.hid hw1
  clear hB hw1
  go_wp2
  go_loopw [11, 12, 13, 14] (fun b c i _ wr => ∃ (k : Nat) (bb cc : Int) (L : List Int), k ≤ n + 1 ∧ i = .int .i64 (k : Int) ∧ b = .int .u64 bb ∧ c = .int .u64 cc ∧ 0 ≤ bb ∧ bb ≤ 1 ∧ 0 ≤ cc ∧ cc ≤ 4294967295 ∧ (k = n + 1 → cc = 0) ∧ Minus V ds q k L (cc + bb) ∧ Blk wr G (L ++ List.replicate (n + 1 - k) 0) ∧ Only G w1 wr) (fun _ _ i _ _ => n + 1 - (intOf i).toNat)
  case atStart => exact ⟨0, 0, 0, [], Nat.zero_le _, rfl, rfl, rfl, by omega, by omega, by omega, by omega, by omega, Minus.start V ds q, hb1, Only.refl G w1⟩
  case round =>
    obtain ⟨k, bb, cc, L, hk, rfl, rfl, rfl, b0, b1, c0, c1, hcl, hM, hbk, ho⟩ := hrel
    have HM := Lib.hid hM; clear hM
    have HCL := Lib.hid hcl; clear hcl
    by_cases hlt : k < n + 1
    · obtain ⟨x, hx⟩ : ∃ x, V.getD k 0 = x := ⟨_, rfl⟩
      have hxr := hwV.getD k
      rw [hx] at hxr
      obtain ⟨x0, x1⟩ := hxr
      have cu := (hB1.only ho hgG).cell (j + k) (by rw [HU.out]; omega)
      rw [← HVG.out k hlt, hx, Nat.add_comm j k] at cu
      have HX := Lib.hid hx; clear hx
      have hfr := hbk.frozen k
      obtain ⟨m, hm⟩ : ∃ m, n + 1 - k = m + 1 := ⟨n - k, by omega⟩
      have hml : n + 1 - (k + 1) = m := by omega
      have hL1 := HM.out.1
      have hcG := hbk.cell k (by simp [hL1]; omega)
      have hbk2 := fun z => by have h := hbk; rw [hm] at h; exact blk_grow (z := z) h hL1
      have HBK := Lib.hid hbk2
      have HO := Lib.hid ho
      clear hbk2 hL1 hm
      by_cases h2 : k < n
      · obtain ⟨bd, od, rfl, hc⟩ := hd1 _ ho (by rw [HD.out]; omega)
        have cd := hc k (by rw [HD.out]; omega)
        obtain ⟨y, hy⟩ : ∃ y, ds.getD k 0 = y := ⟨_, rfl⟩
        have hyr := hwd.getD k
        rw [hy] at hyr cd
        have HY := Lib.hid hy; clear hy hc
        obtain ⟨y0, y1⟩ := hyr
        obtain ⟨p0, p1⟩ := mul_bounds q0 (show q < 4294967296 by omega) y0 y1
        have HWD := Lib.hid (minus_word x y q cc bb x0 x1 p0 p1 c0 c1 b0 b1)
        have hwm : IntKind.u64.wrap (q * y) = q * y := by rw [IntKind.wrap_u64]; exact Int.emod_eq_of_lt p0 (by omega)
        have hwa : IntKind.u64.wrap (cc + q * y) = cc + q * y := by rw [IntKind.wrap_u64]; exact Int.emod_eq_of_lt (by omega) (by omega)
        have hand := and_mask (a := cc + q * y) (by omega) (by omega)
        clear ho hbk
        go_wp2
        go_roundw
        case rel =>
          refine ⟨k + 1, _, _, _, by omega, by go_num, rfl, rfl, HWD.out.2.2.1, HWD.out.2.2.2.1, HWD.out.1, HWD.out.2.1, fun h => by omega, HM.out.step ⟨Int.emod_nonneg _ (by omega), Int.emod_lt_of_pos _ (by omega)⟩ (HWD.out.2.2.2.2.trans (by rw [HX.out, HY.out])), ?_, HO.out.setCell _ _⟩
          rw [hml]; exact HBK.out _
        case measure => simp [intOf] <;> omega
      · obtain rfl : k = n := by omega
        have hy0 : ds.getD k 0 = 0 := getD_past (by rw [HD.out]; omega)
        have HY := Lib.hid hy0; clear hy0
        have HWD := Lib.hid (minus_last x cc bb x0 x1 c0 c1 b0 b1)
        have hand := and_mask (a := cc) (by omega) (by omega)
        have hdv : cc / 4294967296 = 0 := by omega
        clear ho hbk
        go_wp2
        go_roundw
        case rel =>
          refine ⟨k + 1, _, _, _, by omega, by go_num, rfl, rfl, HWD.out.1, HWD.out.2.1, by omega, by omega, fun _ => by omega, HM.out.step ⟨Int.emod_nonneg _ (by omega), Int.emod_lt_of_pos _ (by omega)⟩ (HWD.out.2.2.trans (by rw [HX.out, HY.out, Int.mul_zero, Int.sub_zero, Int.zero_add])), ?_, HO.out.setCell _ _⟩
          rw [hml]; exact HBK.out _
        case measure => simp [intOf] <;> omega
    · obtain rfl : k = n + 1 := by omega
      obtain rfl := HCL.out rfl
      obtain ⟨hL1, hL2, hL3⟩ := HM.out
      rw [List.take_of_length_le (by rw [HV.out]; exact Nat.le_refl _), List.take_of_length_le (by rw [HD.out]; omega), Int.zero_add] at hL3
      have hlt1 := num_lt hL2
      have hnn := num_nonneg hL2
      have hvl := num_lt hwV
      rw [hL1] at hlt1
      rw [HV.out] at hvl
      have hdn := num_nonneg hwd
      have hpn := pow_pos' (n + 1)
      have hqd := Int.mul_nonneg q0 hdn
      rw [Nat.sub_self, List.replicate_zero, List.append_nil] at hbk
      rcases (show bb = 0 ∨ bb = 1 by omega) with rfl | rfl
      · rw [Int.mul_zero, Int.add_zero] at hL3
        have HL3 := Lib.hid hL3
        have HL2 := Lib.hid hL2
        have hUr := hB1.only ho hgG
        have HOW := Lib.hid ho
        have hszr : g < wr.heap.size := hUr.lt
        clear hL3 hL2 hlt1 hnn hvl hdn hpn hqd ho
        go_wp2
        go_loopw [15] (fun i wx => ∃ (k : Nat), k ≤ n + 1 ∧ i = .int .i64 (k : Int) ∧ UB wx g (U.take j ++ (L.take k ++ U.drop (j + k))) T ∧ Only g wr wx) (fun i _ => n + 1 - (intOf i).toNat)
        case atStart => exact ⟨0, Nat.zero_le _, rfl, by simpa using hUr, Only.refl g wr⟩
        case round =>
          obtain ⟨k, hk, rfl, hu, ho⟩ := hrel
          have hkl : (U.take j ++ (L.take k ++ U.drop (j + k))).length = nu := by
            simp only [List.length_append, List.length_take, List.length_drop, HU.out, hL1]; omega
          by_cases hlt : k < n + 1
          · have cg := (hbk.only ho (Ne.symm hgG)).cell k (by rw [hL1]; exact hlt)
            have cu := hu.cell (j + k) (by rw [hkl]; omega)
            have fu := hu.frozen (j + k)
            rw [Nat.add_comm j k] at cu fu
            obtain ⟨z, hz⟩ : ∃ z, L.getD k 0 = z := ⟨_, rfl⟩
            rw [hz] at cg
            have hset : (U.take j ++ (L.take k ++ U.drop (j + k))).set (k + j) z = U.take j ++ (L.take (k + 1) ++ U.drop (j + (k + 1))) := by
              have l1 : (U.take j).length = j := by rw [List.length_take, HU.out]; omega
              have l2 : (L.take k).length = k := by rw [List.length_take, hL1]; omega
              rw [List.set_append_right _ _ (by omega), l1, Nat.add_sub_cancel, List.set_append_right _ _ (by omega), l2, Nat.sub_self]
              rw [List.drop_eq_getElem_cons (show j + k < U.length by rw [HU.out]; omega), List.set_cons_zero, List.take_succ_eq_append_getElem (show k < L.length by omega)]
              rw [← hz, List.getD, List.getElem?_eq_getElem (show k < L.length by omega), List.append_assoc]
              rfl
            have hu2 := hu.set (k + j) z (by rw [hkl]; omega)
            rw [hset] at hu2
            have HU2 := Lib.hid hu2
            have HO2 := Lib.hid ho
            clear hu2 hset hu ho hz hkl
            go_wp2
            go_roundw
            case rel => exact ⟨k + 1, by omega, by go_num, HU2.out, HO2.out.setCell _ _⟩
            case measure => simp [intOf] <;> omega
          · obtain rfl : k = n + 1 := by omega
            rw [List.take_of_length_le (show L.length ≤ n + 1 by omega)] at hu
            have HU2 := Lib.hid hu
            have HO2 := Lib.hid ho
            clear hu ho hkl
            go_wp2
            go_ret
            refine Or.inr ⟨rfl, L, hL1, HL2.out, HL3.out, HU2.out, _, ?_, HO2.out⟩
            rw [HGe.out]; exact HW1.out.trans (HOW.out.below (Nat.le_refl _))
      · have hneg : num V < q * num ds := by omega
        have HN := Lib.hid hneg
        have HOW := Lib.hid ho
        clear hL3 hL2 hlt1 hnn hvl hdn hpn hqd hneg ho hbk
        go_wp2
        go_ret
        refine Or.inl ⟨rfl, HN.out, ?_⟩
        rw [HGe.out]; exact HW1.out.trans (HOW.out.below (Nat.le_refl _))
end Go.Proofs.YtlpclahlolhjfaaGreatDoor

namespace Go.Proofs.YtlpclahlolhjfaaGreatDoor

def fmag (f : Nat) : Nat := f % 9223372036854775808
def ffld (f : Nat) : Nat := fmag f / 4503599627370496
/-- the significand -/
def sig (f : Nat) : Nat := if ffld f = 0 then fmag f else fmag f % 4503599627370496 + 4503599627370496
/-- the exponent of the last place, above the least one -/
def fsh (f : Nat) : Nat := ffld f - 1
/-- the absolute value in units of the least float -/
def fz (f : Nat) : Nat := sig f * 2 ^ fsh f
end Go.Proofs.YtlpclahlolhjfaaGreatDoor

namespace Go.Proofs.YtlpclahlolhjfaaGreatDoor

theorem or_add {a b k : Nat} (hb : b < 2 ^ k) (h : a * 2 ^ k + b < 18446744073709551616) : bits BinOp.or IntKind.u64 ((a * 2 ^ k : Nat) : Int) (b : Int) = ((a * 2 ^ k + b : Nat) : Int) := by
  rw [bits_or_u64_nat _ _ (by omega) (by omega), Nat.mul_comm a, Nat.two_pow_add_eq_or_of_lt hb]

end Go.Proofs.YtlpclahlolhjfaaGreatDoor

namespace Go.Proofs.YtlpclahlolhjfaaGreatDoor
open Go.RowKit

/-- shl by less than a limb: a magnitude in a block of the call's own -/
theorem refShl_top (a k : Nat) (ao : Option Addr) (n ca : Nat) (w : World) (ha : Sl w ao n ca (limbs a)) (hk : k < 32) (hn : n ≤ 1000000000) :
    Calls Tryz.prog 82 #[.slice ao n ca, .int .i64 (k : Int)] w fun e w' => ∃ g cr L T, e = .returned (.slice (some ⟨g, 0, none⟩) (n + 1) cr) ∧ w.heap.size ≤ g ∧ UB w' g L T ∧ Wf L ∧ L.length = n + 1 ∧ num L = ((a * 2 ^ k : Nat) : Int) ∧ n + 1 ≤ cr ∧ Ext w w' := by
  have h := refShl_own (limbs a) 0 k ao n ca w ha hk hn (by omega)
  rw [show 0 * 32 + k = k by omega, show 0 + n + 1 = n + 1 by omega, num_limbs, Int.pow_zero, Int.mul_one] at h
  refine h.mono fun e w' ⟨g, cr, L, T, h1, h2, h3, h4, h5, h6, h7, h8⟩ => ⟨g, cr, L, T, h1, h2, h3, h4, h5, ?_, h7, h8⟩
  rw [h6, Int.natCast_mul, Int.natCast_pow]; rfl

/-- the first guess is not less than the digit -/
theorem guess_ge {W V top f R : Int} (hR : 0 < R) (hf : 0 < f) (hW : W < (top + 1) * R) (hV : f * R ≤ V) (ht : 0 ≤ top) : W / V ≤ top / f := by
  have h1 := Int.mul_ediv_add_emod top f
  have h2 : 0 ≤ top % f := Int.emod_nonneg _ (by omega)
  have h3 : top % f < f := Int.emod_lt_of_pos _ hf
  have hg0 : 0 ≤ top / f := Int.ediv_nonneg ht (by omega)
  have hVp : 0 < V := Int.lt_of_lt_of_le (Int.mul_pos hf hR) hV
  have h4 : top + 1 ≤ f * (top / f + 1) := by rw [Int.mul_add, Int.mul_one]; omega
  have h5 : (top + 1) * R ≤ f * (top / f + 1) * R := Int.mul_le_mul_of_nonneg_right h4 (Int.le_of_lt hR)
  have h6 : f * (top / f + 1) * R = (top / f + 1) * (f * R) := by rw [Int.mul_comm f, Int.mul_assoc]
  have h7 : (top / f + 1) * (f * R) ≤ (top / f + 1) * V := Int.mul_le_mul_of_nonneg_left hV (by omega)
  have h8 : W < (top / f + 1) * V := by omega
  have h9 := Int.ediv_lt_of_lt_mul hVp h8
  omega
theorem digit_is {W V q : Int} (hV : 0 < V) (h1 : W / V ≤ q) (h2 : q * V ≤ W) : q = W / V ∧ W - q * V = W % V := by
  have h3 : q ≤ W / V := (Int.le_ediv_iff_mul_le hV).2 h2
  have h4 : q = W / V := by omega
  refine ⟨h4, ?_⟩
  have := Int.mul_ediv_add_emod W V
  rw [h4, Int.mul_comm]
  omega
theorem digit_less {W V q : Int} (hV : 0 < V) (h : W < q * V) : W / V ≤ q - 1 := by
  have := Int.ediv_lt_of_lt_mul hV h
  omega

set_option maxRecDepth 100000 in
set_option maxHeartbeats 8000000 in
theorem refDivMag_any (a b : Nat) (ao bo : Option Addr) (n mm ca cb : Nat) (w : World) (ha : Sl w ao n ca (limbs a)) (hb : Sl w bo mm cb (limbs b)) (h0 : b ≠ 0) (hn : n ≤ 100000000) :
    Calls Tryz.prog 91 #[.slice ao n ca, .slice bo mm cb] w fun e w' => ∃ qo qk qc ro rk rc, e = .returned (.tuple #[.slice qo qk qc, .slice ro rk rc]) ∧ Sl w' qo qk qc (limbs (a / b)) ∧ Sl w' ro rk rc (limbs (a % b)) ∧ Ext w w' := by
  by_cases hab : a < b
  · have hs : sgn3 (a : Int) b = -1 := by unfold sgn3; rw [if_pos (by omega)]
    have CM := refCmpMag_any a b ao bo n mm ca cb w ha hb
    rw [hs] at CM
    have CM := Lib.hid CM
    have hq0 : a / b = 0 := Nat.div_eq_of_lt hab
    have hr0 : a % b = a := Nat.mod_eq_of_lt hab
    rw [hq0, hr0]
    clear hs hq0 hr0 hab h0
    go_enter Tryz.func91, Tryz.ntmps91
    go_wp2_with fail
    refine CM.out.mono ?_
    rintro e w1 ⟨rfl, q, rfl⟩
    obtain ⟨W1, hW1, hq⟩ := drewN_world w q
    rw [hW1]
    clear hW1
    have ha1 := ha.below hq
    go_wp2
    go_ret2
    exact ⟨none, 0, 0, ao, n, ca, rfl, by rw [limbs_zero]; exact Sl.nil _, ha1, hq⟩
  · have hab : b ≤ a := by omega
    have hs : decide (sgn3 (a : Int) b < 0) = false := by simp [sgn3]; omega
    have hmn : mm ≤ n := by
      have := limbs_mono hab
      rw [ha.len, hb.len] at this
      exact this
    obtain ⟨m, rfl⟩ : ∃ m, mm = m + 1 := by
      refine ⟨mm - 1, ?_⟩
      rcases Nat.eq_zero_or_pos mm with h | h
      · subst h
        have := hb.len
        have := (limbs_len_le b 0).1 (by omega)
        rw [Nat.pow_zero] at this
        omega
      · omega
    obtain ⟨k, hk, hlz, hvl, hvt⟩ := norm_shift (b := b) (m := m) hb.len
    obtain ⟨bd, od, rfl, hc⟩ := hb.cells (by rw [hb.len]; omega)
    have c1 := hc m (by rw [hb.len]; omega)
    clear hc
    have hxr := (Wf.limbs b).getD m
    obtain ⟨x, hx⟩ : ∃ x, (limbs b).getD m 0 = x := ⟨_, rfl⟩
    rw [hx] at c1 hxr hlz
    clear hx
    obtain ⟨x0, x1⟩ := hxr
    have HLZ := Lib.hid hlz; clear hlz
    have H := Lib.hid hab; clear hab
    have V0 : (0 : Int) < ((b * 2 ^ k : Nat) : Int) := by
      have := Nat.mul_pos (Nat.pos_of_ne_zero h0) (show 0 < 2 ^ k from Nat.pos_of_ne_zero (by simp))
      omega
    have V1 : ((b * 2 ^ k : Nat) : Int) < 4294967296 ^ (m + 1) := by
      have h1 := (limbs_len_le (b * 2 ^ k) (m + 1)).1 (by rw [hvl]; exact Nat.le_refl _)
      have h2 := Int.ofNat_lt.2 h1
      rw [Int.natCast_pow] at h2
      exact h2
    have V2 : (4294967296 : Int) ^ m ≤ ((b * 2 ^ k : Nat) : Int) := by
      have h1 : 4294967296 ^ m ≤ b * 2 ^ k := by
        rcases Nat.lt_or_ge (b * 2 ^ k) (4294967296 ^ m) with h | h
        · have := (limbs_len_le (b * 2 ^ k) m).2 h; omega
        · exact h
      have h2 := Int.ofNat_le.2 h1
      rw [Int.natCast_pow] at h2
      exact h2
    have AB : ((a * 2 ^ k : Nat) : Int) < ((b * 2 ^ k : Nat) : Int) * 4294967296 ^ (n - m) := by
      have h1 := (limbs_len_le a n).1 (by rw [ha.len]; exact Nat.le_refl _)
      have h2 : 4294967296 ^ m ≤ b := by
        rcases Nat.lt_or_ge b (4294967296 ^ m) with h | h
        · have := (limbs_len_le b m).2 h; have := hb.len; omega
        · exact h
      have h3 : a * 2 ^ k < b * 2 ^ k * 4294967296 ^ (n - m) := by
        have e : n = m + (n - m) := by omega
        rw [e, Nat.pow_add] at h1
        have h4 := Nat.mul_le_mul_right (4294967296 ^ (n - m)) h2
        have h5 := Nat.mul_lt_mul_of_pos_right (Nat.lt_of_lt_of_le h1 h4) (show 0 < 2 ^ k from Nat.pos_of_ne_zero (by simp))
        rwa [Nat.mul_right_comm] at h5
      have h4 := Int.ofNat_lt.2 h3
      rw [Int.natCast_mul (b * 2 ^ k), Int.natCast_pow] at h4
      exact h4
    have hdm : ∀ N R : Int, ((a * 2 ^ k : Nat) : Int) = R + ((b * 2 ^ k : Nat) : Int) * N → 0 ≤ R → R < ((b * 2 ^ k : Nat) : Int) → N = ((a / b : Nat) : Int) ∧ R = ((a % b * 2 ^ k : Nat) : Int) := by
      intro N R he hR0 hR1
      have hkk : 0 < 2 ^ k := Nat.pos_of_ne_zero (by simp)
      have e1 : ((a * 2 ^ k : Nat) : Int) / ((b * 2 ^ k : Nat) : Int) = N := by
        rw [he, Int.add_mul_ediv_left _ _ (by omega), Int.ediv_eq_zero_of_lt hR0 hR1]; omega
      have e2 : ((a * 2 ^ k : Nat) : Int) % ((b * 2 ^ k : Nat) : Int) = R := by
        rw [he, Int.add_mul_emod_self_left, Int.emod_eq_of_lt hR0 hR1]
      constructor
      · rw [← e1, ← Int.natCast_ediv, Nat.mul_div_mul_right _ _ hkk]
      · rw [← e2, ← Int.natCast_emod, Nat.mul_mod_mul_right]
    have HDM := Lib.hid hdm
    have HV0 := Lib.hid V0
    have HV1 := Lib.hid V1
    have HV2 := Lib.hid V2
    have HAB := Lib.hid AB
    clear hdm V0 V1 V2 AB hvt hvl h0 H
    have CM := Lib.hid (refCmpMag_any a b ao (some ⟨bd, od, none⟩) n (m + 1) ca cb w ha hb)
    go_enter Tryz.func91, Tryz.ntmps91
    go_wp2_with fail
    refine CM.out.mono ?_
    rintro e w1 ⟨rfl, q, rfl⟩
    obtain ⟨W1, hW1, hq⟩ := drewN_world w q
    rw [hW1]
    clear hW1 CM
    have ha1 := ha.below hq
    have hb1 := hb.below hq
    have c2 : W1.cell? ⟨bd, od + m, none⟩ = some (.int .u32 x) := by rw [hq.cell (p := ⟨bd, od + m, none⟩) (lt_of_cell c1)]; exact c1
    have CA := Lib.hid (fun W (hE : Ext W1 W) => refShl_top a k ao n ca W (ha1.below hE) hk (by omega))
    have CB := Lib.hid (fun W (hE : Ext W1 W) => refShl_top b k (some ⟨bd, od, none⟩) (m + 1) cb W (hb1.below hE) hk (by omega))
    have HQ := Lib.hid (show Ext w W1 from hq)
    go_wp2_with fail
    refine (Tryz.bits_LeadingZeros32 x _ x0 (by omega)).mono ?_
    rintro e w2 ⟨rfl, rfl⟩
    rw [HLZ.out]
    clear c1 c2 ha1 hb1 ha hb hq
    go_upto_region 5 with fail
    have st : Ext w2 w2.drew := (Below.refl _ _).drew
    go_cut [8, 9] from 10 (fun p r wx => ∃ g cu U0 T h ch L0 Tv, p = .slice (some ⟨g, 0, none⟩) (n + 1) cu ∧ r = .slice (some ⟨h, 0, none⟩) (m + 1) ch ∧ w2.heap.size ≤ g ∧ g < h ∧ UB wx g U0 T ∧ UB wx h L0 Tv ∧ Wf U0 ∧ U0.length = n + 1 ∧ num U0 = ((a * 2 ^ k : Nat) : Int) ∧ Wf L0 ∧ L0.length = m + 1 + 1 ∧ num L0 = ((b * 2 ^ k : Nat) : Int) ∧ n + 1 ≤ cu ∧ m + 1 ≤ ch ∧ Ext w2 wx)
    case first =>
      go_region_with (first
        | (go_at_call 82; (with_reducible refine (CA.out _ st).mono ?_); rintro e wa ⟨g, cu, U0, T, rfl, hg0, hub, hwU0, hUl0, hUn0, hcu, hEa⟩; have sta : Ext w2 wa := Ext.trans st hEa)
        | (go_at_call 82; (with_reducible refine (CB.out _ sta).mono ?_); rintro e wb ⟨h, ch, L0, Tv, rfl, hh0, hvb, hwL0, hLl0, hLn0, hch, hEb⟩; have stb : Ext w2 wb := Ext.trans sta hEb; have hslc : (m : Int) + 1 ≤ (ch : Int) := by omega))
      all_goals
        go_wp2
        go_meet
      all_goals
        exact ⟨g, cu, U0, T, h, ch, L0, Tv, rfl, rfl, hg0, Nat.lt_of_lt_of_le hub.lt hh0, hub.below hEb, hvb, hwU0, hUl0, hUn0, hwL0, hLl0, hLn0, hcu, by omega, stb⟩
    case rest =>
      obtain ⟨g, cu, U0, T, h, ch, L0, Tv, rfl, rfl, hg0, hgh, hub, hvb, hwU0, hUl0, hUn0, hwL0, hLl0, hLn0, hcu, hch, hEc⟩ := hcut
      obtain ⟨W4, hW4⟩ : ∃ W4, W4 = wc := ⟨wc, rfl⟩
      subst hW4
      have HQ4 := Lib.hid (Ext.trans HQ.out hEc)
      have hBg : w.heap.size ≤ g := by have := Below.size HQ.out; omega
      have e6 : (((n : Int) + 1) == (n : Int)) = false := by apply beq_eq_false_iff_ne.2; omega
      clear CA CB st HQ HLZ hEc hg0 x0 x1
      obtain ⟨nk, hnq⟩ : ∃ nk : Nat, (n : Int) - ((m : Int) + 1) + 1 = nk := ⟨n - m, by omega⟩
      have HNQ := Lib.hid hnq
      have hnq1 : nk ≤ 100000000 := by omega
      have HNQ2 := Lib.hid (show nk = n - m by omega)
      go_wp2_with (refine wpList_make_u32 _ rfl _ _ rfl _ nk rfl rfl (by omega) (by omega) ?_)
      intro W6 hb6 hw6
      have hu6 := hub.below hw6
      have hv6 := hvb.below hw6
      have hB6 : Below w.heap.size w W6 := Below.trans HQ4.out (hw6.mono (Below.size HQ4.out))
      have hgq := hvb.lt
      generalize hGe : W4.heap.size = gq at *
      clear hw6 hub hvb hGe
      have hstart : Knuth ((a * 2 ^ k : Nat) : Int) ((b * 2 ^ k : Nat) : Int) U0 (List.replicate nk 0) (n + 1) nk nk := by
        refine ⟨hUl0, by simp, hwU0, Wf.replicate _, ?_, ?_⟩
        · rw [hUn0, List.drop_eq_nil_of_le (by simp)]; simp [num]
        · rw [hUn0, HNQ2.out]; exact HAB.out
      have hds : (L0.take (m + 1)).length = m + 1 := by rw [List.length_take, hLl0]; omega
      have hdn : num (L0.take (m + 1)) = ((b * 2 ^ k : Nat) : Int) := by
        have h1 := num_take_next L0 (m + 1)
        rw [List.take_of_length_le (by rw [hLl0]; exact Nat.le_refl _), hLn0] at h1
        have h2 := hwL0.getD (m + 1)
        have h3 := num_nonneg (hwL0.take (m + 1))
        have h4 := HV1.out
        have h5 := pow_pos' (m + 1)
        have h6 : L0.getD (m + 1) 0 = 0 := by
          rcases Int.lt_or_eq_of_le h2.1 with h | h
          · have := Int.mul_le_mul_of_nonneg_left (show 1 ≤ L0.getD (m + 1) 0 by omega) (Int.le_of_lt h5)
            omega
          · exact h.symm
        rw [h6, Int.mul_zero, Int.add_zero] at h1
        exact h1.symm
      have hwd := hwL0.take (m + 1)
      have hdt : 0 < L0.getD m 0 := by
        have h1 := num_take_next L0 m
        rw [hdn] at h1
        have h2 := num_lt (hwL0.take m)
        rw [List.length_take, hLl0, Nat.min_eq_left (by omega)] at h2
        have h3 := HV2.out
        have h4 := (hwL0.getD m).1
        rcases Int.lt_or_eq_of_le h4 with h | h
        · exact h
        · rw [← h, Int.mul_zero, Int.add_zero] at h1; omega
      have hdf : 4294967296 ^ m * L0.getD m 0 ≤ ((b * 2 ^ k : Nat) : Int) := by
        have h1 := num_take_next L0 m
        rw [hdn] at h1
        have h2 := num_nonneg (hwL0.take m)
        omega
      have hdr := hwL0.getD m
      obtain ⟨f, hf⟩ : ∃ f, L0.getD m 0 = f := ⟨_, rfl⟩
      rw [hf] at hdt hdf hdr
      have HF := Lib.hid hf
      have HDF := Lib.hid hdf
      have HDS := Lib.hid hds
      have HDN := Lib.hid hdn
      have HWD := Lib.hid hwd
      have HLL := Lib.hid hLl0
      have f0 : ¬ f = 0 := by omega
      have f1 := hdr.2
      clear hf hds hdn hwd hdf hLn0 hwL0 hUn0 hwU0 hUl0 hdr
      have hgne : g ≠ gq := by omega
      have hhne : h ≠ gq := by omega
      have hghn : g ≠ h := by omega
      go_wp2
      go_loopw [11, 12, 13] (fun i _ _ wr => ∃ (j : Nat) (U Q : List Int), j ≤ nk ∧ i = .int .i64 ((j : Int) - 1) ∧ Knuth ((a * 2 ^ k : Nat) : Int) ((b * 2 ^ k : Nat) : Int) U Q (n + 1) nk j ∧ UB wr g U T ∧ UB wr h L0 Tv ∧ Blk wr gq Q ∧ Below w.heap.size w wr)
        (fun i _ _ _ => (intOf i + 1).toNat)
      case atStart => exact ⟨nk, U0, _, Nat.le_refl _, congrArg (Value.int .i64) (by have := HNQ.out; omega), hstart, hu6, hv6, hb6, hB6⟩
      case round =>
        obtain ⟨j, U, Q, hj, rfl, hK, hub, hvb, hbq, hB⟩ := hrel
        have HK := Lib.hid hK; clear hK
        by_cases hlt : 0 < j
        · obtain ⟨t, rfl⟩ : ∃ t, j = t + 1 := ⟨j - 1, by omega⟩
          have ej : ((t + 1 : Nat) : Int) - 1 = (t : Int) := by omega
          rw [ej]
          clear ej
          have hfit : t + (m + 1 + 1) ≤ n + 1 := by have := HNQ2.out; omega
          have hUl := HK.out.1
          have hQl := HK.out.2.1
          have hwU := HK.out.2.2.1
          have hwin := HK.out.window (m := m + 1) HV1.out hfit
          have c1 := hub.cell (t + (m + 1)) (by rw [hUl]; omega)
          have c2 := hub.cell (t + m) (by rw [hUl]; omega)
          have c3 := hvb.cell m (by rw [HLL.out]; omega)
          rw [HF.out] at c3
          have r1 := hwU.getD (t + (m + 1))
          have r2 := hwU.getD (t + m)
          obtain ⟨y1, hy1⟩ : ∃ y, U.getD (t + (m + 1)) 0 = y := ⟨_, rfl⟩
          obtain ⟨y0, hy0⟩ : ∃ y, U.getD (t + m) 0 = y := ⟨_, rfl⟩
          rw [hy1] at c1 r1
          rw [hy0] at c2 r2
          have hor : bits BinOp.or IntKind.u64 (y1 * 4294967296) y0 = y1 * 4294967296 + y0 := by
            obtain ⟨p1, rfl⟩ := Int.eq_ofNat_of_zero_le r1.1
            obtain ⟨p0, rfl⟩ := Int.eq_ofNat_of_zero_le r2.1
            have h := or_add (a := p1) (b := p0) (k := 32) (by omega) (by omega)
            rw [show ((p1 * 2 ^ 32 : Nat) : Int) = (p1 : Int) * 4294967296 by omega] at h
            rw [h]
            omega
          have hws : IntKind.u64.wrap (y1 * 4294967296) = y1 * 4294967296 := by rw [IntKind.wrap_u64]; omega
          have hx1 : (t : Int) + ((m : Int) + 1) < (n : Int) + 1 := by omega
          have hx2 : (t : Int) + ((m : Int) + 1) - 1 < (n : Int) + 1 := by omega
          have hx3 : (0 : Int) ≤ (t : Int) + ((m : Int) + 1) - 1 := by omega
          have hx4 : (0 : Int) ≤ (t : Int) + ((m : Int) + 1) := by omega
          have hx5 : ((t : Int) + ((m : Int) + 1) - 1).toNat = t + m := by omega
          have hx6 : ((t : Int) + ((m : Int) + 1)).toNat = t + (m + 1) := by omega
          have HY1 := Lib.hid hy1
          have HY0 := Lib.hid hy0
          have HWIN := Lib.hid hwin
          clear hy1 hy0 hwin
          go_wp2
          go_quiet (fail)
          go_wp2
          obtain ⟨W8, hW8, hq8⟩ := drewN_world wr nq
          rw [hW8]
          clear hW8
          have hub8 := hub.below hq8
          have hvb8 := hvb.below hq8
          have hbq8 := hbq.below hq8
          have hB8 : Below w.heap.size w W8 := Below.trans hB (hq8.mono (Below.size hB))
          have htop : num ((U.drop t).take (m + 1 + 1)) < (y1 * 4294967296 + y0 + 1) * 4294967296 ^ m := by
            have g1 := getD_window U t (m + 1 + 1) (m + 1) (by omega)
            have g2 := getD_window U t (m + 1 + 1) m (by omega)
            rw [HY1.out] at g1
            rw [HY0.out] at g2
            have hwl : ((U.drop t).take (m + 1 + 1)).length = m + 1 + 1 := by rw [List.length_take, List.length_drop]; omega
            have hww := (hwU.drop t).take (m + 1 + 1)
            generalize (U.drop t).take (m + 1 + 1) = X at *
            have a1 := num_take_next X (m + 1)
            have a2 := num_take_next X m
            rw [List.take_of_length_le (by rw [hwl]; exact Nat.le_refl _), g1] at a1
            rw [g2] at a2
            have a3 := num_lt (hww.take m)
            rw [List.length_take, hwl, Nat.min_eq_left (by omega)] at a3
            rw [a1, a2, Int.pow_succ]
            have e1 : (y1 * 4294967296 + y0 + 1) * (4294967296 : Int) ^ m = 4294967296 ^ m * y0 + 4294967296 ^ m * 4294967296 * y1 + 4294967296 ^ m := by
              rw [Int.add_mul, Int.add_mul, Int.one_mul, Int.mul_comm y0, Int.mul_assoc (4294967296 ^ m) 4294967296 y1, Int.mul_comm 4294967296 y1, Int.mul_comm (y1 * 4294967296)]
              omega
            rw [e1]
            omega
          have hgs := guess_ge (V := ((b * 2 ^ k : Nat) : Int)) (pow_pos' m) hdt htop (by rw [Int.mul_comm]; exact HDF.out) (by omega)
          have hv0 := HV0.out
          obtain ⟨Z, hZ⟩ : ∃ Z, num ((U.drop t).take (m + 1 + 1)) / ((b * 2 ^ k : Nat) : Int) = Z := ⟨_, rfl⟩
          have hZ0 : 0 ≤ Z := by rw [← hZ]; exact Int.ediv_nonneg (num_nonneg ((hwU.drop t).take _)) (Int.le_of_lt hv0)
          have hZ1 : Z < 4294967296 := by rw [← hZ]; exact Int.ediv_lt_of_lt_mul hv0 (by rw [Int.mul_comm]; exact HWIN.out.2.2)
          rw [hZ] at hgs
          obtain ⟨G0, hG0⟩ : ∃ G0, min ((y1 * 4294967296 + y0) / f) 4294967295 = G0 := ⟨_, rfl⟩
          rw [hG0]
          have hG1 : Z ≤ G0 := by rw [← hG0]; omega
          have hG2 : G0 ≤ 4294967295 := by rw [← hG0]; omega
          have HZ := Lib.hid hZ
          clear hG0 hgs htop hZ hub hvb hbq hB hq8 hv0 c1 c2 c3 hor hws hx1 hx2 hx3 hx4 hx5 hx6 r1 r2 HY1 HY0
          go_loopw [13] (fun gs wx => ∃ G : Int, gs = .int .u64 G ∧ Z ≤ G ∧ G ≤ 4294967295 ∧ UB wx g U T ∧ UB wx h L0 Tv ∧ Blk wx gq Q ∧ Below w.heap.size w wx)
            (fun gs _ => (intOf gs).toNat)
          case atStart => exact ⟨G0, rfl, hG1, hG2, hub8, hvb8, hbq8, hB8⟩
          case round =>
            obtain ⟨G, rfl, hg1, hg2, hub, hvb, hbq, hB⟩ := hrel
            have hsl : Sl wr (some ⟨h, 0, none⟩) (m + 1) ch (L0.take (m + 1)) := ⟨HDS.out, hch, by omega, HWD.out, hvb.at.take (m + 1)⟩
            have hst : Stay g wr (some ⟨h, 0, none⟩) (L0.take (m + 1)) := fun w' ho => (hvb.only ho (Ne.symm hghn)).at.take (m + 1)
            clear hub8 hvb8 hbq8 hB8 hG1 hG2
            go_wp2_with fail
            refine (refTake_any g t (m + 1) (n + 1) cu ch U (L0.take (m + 1)) T (some ⟨h, 0, none⟩) G _ hUl hfit (by omega) hwU hub hsl hst (by omega) hg2).mono ?_
            rintro e w9 (⟨rfl, hlt9, hb9⟩ | ⟨rfl, V', hVl, hVw, hVn, hu9, w8, hb9, ho9⟩)
            · rw [HDN.out] at hlt9
              have hz9 := digit_less HV0.out hlt9
              rw [HZ.out] at hz9
              have hwg : IntKind.u64.wrap (G - 1) = G - 1 := by rw [IntKind.wrap_u64]; omega
              have hub9 := hub.below hb9
              have hvb9 := hvb.below hb9
              have hbq9 := hbq.below hb9
              have hB9 : Below w.heap.size w w9 := Below.trans hB (hb9.mono (Below.size hB))
              clear hlt9 hub hvb hbq hB hsl hst hb9
              go_wp2
              go_roundw
              case rel => exact ⟨G - 1, rfl, hz9, by omega, hub9, hvb9, hbq9, hB9⟩
              case measure => simp [intOf] <;> omega
            · rw [HDN.out] at hVn
              have hvn0 := num_nonneg hVw
              have hdg := digit_is (q := G) HV0.out (by rw [HZ.out]; exact hg1) (by omega)
              rw [HZ.out] at hdg
              obtain ⟨rfl, hmod⟩ := hdg
              rw [hmod] at hVn
              have hstp := HK.out.step HV0.out HV1.out hfit (by omega) hVl hVw hVn
              rw [HZ.out] at hstp
              have hvb9 := (hvb.below hb9).only ho9 (Ne.symm hghn)
              have hbq9 := (hbq.below hb9).only ho9 (Ne.symm hgne)
              have hB9 : Below w.heap.size w w9 := Below.trans (Below.trans hB (hb9.mono (Below.size hB))) (ho9.below hBg)
              have c4 := hbq9.frozen t
              have c5 := hbq9.cell t (by omega)
              have hgm : G % 4294967296 = G := Int.emod_eq_of_lt hZ0 hZ1
              have hwj : IntKind.i64.wrap ((t : Int) - 1) = (t : Int) - 1 := IntWalk.i64_in _ ⟨by omega, by omega⟩
              have HSTP := Lib.hid hstp
              have hgq9 : w.heap.size ≤ gq := by omega
              clear hub hvb hbq hB hsl hst hb9 hmod hVn hstp hvn0 hVl hVw ho9
              go_wp2
              go_roundw
              case rel => exact ⟨t, _, _, by omega, rfl, HSTP.out, UB.only hu9 ((Only.refl gq w9).setCell _ _) hgne, UB.only hvb9 ((Only.refl gq w9).setCell _ _) hhne, hbq9.set _ _, Below.trans hB9 (((Only.refl gq w9).setCell _ _).below hgq9)⟩
              case measure => simp [intOf] <;> omega
        · obtain rfl : j = 0 := by omega
          obtain ⟨hUl, hQl, hwU, hwQ, he, hltv⟩ := HK.out
          rw [Int.pow_zero, Int.one_mul, List.drop_zero] at he
          rw [Int.pow_zero, Int.mul_one] at hltv
          obtain ⟨hq1, hr1⟩ := HDM.out _ _ he (num_nonneg hwU) hltv
          have HQ1 := Lib.hid hq1
          have HR1 := Lib.hid hr1
          clear he hltv hq1 hr1
          have hsq := hbq.sl hwQ hQl (by omega) (Nat.le_refl nk)
          have hsu := hub.sl hwU hUl (by omega) hcu
          clear hub hvb hbq
          go_wp2_with fail
          refine (refTrim_any _ _ _ U wr hsu).mono ?_
          rintro e w8 ⟨uo, ul, uc, rfl, hu8, hul, hb8⟩
          rw [HR1.out, Int.toNat_natCast] at hu8
          have hsq := hsq.below hb8
          have hB8 : Below w.heap.size w w8 := Below.trans hB (hb8.mono (Below.size hB))
          clear hsu hB hb8
          go_wp2_with fail
          refine (refShr_num (a % b * 2 ^ k) k _ _ _ _ hu8 (by omega) (by omega)).mono ?_
          rintro e w9 ⟨so, sl, sc, L, rfl, hs9, hn9, hl9, hb9⟩
          rw [Nat.mul_div_cancel _ (Nat.pos_of_ne_zero (by simp))] at hn9
          have hsq := hsq.below hb9
          have hB9 : Below w.heap.size w w9 := Below.trans hB8 (hb9.mono (Below.size hB8))
          clear hu8 hb9 hB8
          generalize decide (a % b * 2 ^ k % 2 ^ k ≠ 0) = lost
          go_wp2_with fail
          refine (refTrim_any _ _ _ Q w9 hsq).mono ?_
          rintro e w10 ⟨qo, ql, qc, rfl, hq10, hql, hb10⟩
          rw [HQ1.out, Int.toNat_natCast] at hq10
          have hs9 := hs9.below hb10
          have hB10 : Below w.heap.size w w10 := Below.trans hB9 (hb10.mono (Below.size hB9))
          clear hsq hb10 hB9
          go_wp2_with fail
          refine (refTrim_any _ _ _ L w10 hs9).mono ?_
          rintro e w11 ⟨ro, rl, rc, rfl, hr11, hrl, hb11⟩
          rw [hn9, Int.toNat_natCast] at hr11
          have hq11 := hq10.below hb11
          have HB11 := Lib.hid (show Ext w w11 from Below.trans hB10 (hb11.mono (Below.size hB10)))
          have HR11 := Lib.hid hr11
          have HQ11 := Lib.hid hq11
          clear hr11 hq11 hb11 hB10 hs9 hq10
          go_wp2
          go_ret2
          exact ⟨_, _, _, _, _, _, rfl, HQ11.out, HR11.out, HB11.out⟩
end Go.Proofs.YtlpclahlolhjfaaGreatDoor
