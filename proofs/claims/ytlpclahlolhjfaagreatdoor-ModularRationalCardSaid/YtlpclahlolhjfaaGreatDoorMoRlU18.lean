import Derived.Test.YtlpclahlolhjfaaGreatDoorMoRlU17
import Derived.Test.YtlpclahlolhjfaaGreatDoorMoRlU16
import Derived.Test.YtlpclahlolhjfaaGreatDoorMoRlU12
import Derived.Test.YtlpclahlolhjfaaGreatDoorMoRlU11
import Derived.Test.YtlpclahlolhjfaaGreatDoorMoRlU7
import Derived.Test.YtlpclahlolhjfaaGreatDoorMoRlU2
import Derived.Test.YtlpclahlolhjfaaGreatDoorMoRlU13
import Derived.WalkKit
import Derived.WalkSmall
import Derived.Lib.Hide
import Derived.Deep.RegionHeld3
import Derived.Deep.CutRange
namespace Go.Proofs.YtlpclahlolhjfaaGreatDoor
open Go.RowKit

theorem blen_spec {a : Nat} (h : a ≠ 0) : ∃ l, blen a = l + 1 ∧ 2 ^ l ≤ a ∧ a < 2 ^ (l + 1) := by
  refine ⟨Nat.log2 a, by unfold blen; rw [if_neg h], Nat.log2_self_le h, Nat.lt_log2_self⟩

theorem half_bits {a : Nat} (h : a ≠ 0) : ∃ c : Nat, ((blen a : Int) - 1) / 2 = c ∧ 4 ^ c ≤ a ∧ a < 4 ^ (c + 1) ∧ 2 * c + 1 ≤ blen a := by
  obtain ⟨l, e, l0, l1⟩ := blen_spec h
  refine ⟨l / 2, by rw [e]; omega, ?_, ?_, by omega⟩
  · have := Nat.pow_le_pow_right (show 0 < 2 by omega) (show l / 2 + l / 2 ≤ l by omega)
    rw [four_pow, ← Nat.pow_add]; omega
  · have := Nat.pow_le_pow_right (show 0 < 2 by omega) (show l + 1 ≤ (l / 2 + 1) + (l / 2 + 1) by omega)
    rw [four_pow, ← Nat.pow_add]; omega

theorem blen_limbs {a e : Nat} (h : a < 4294967296 ^ e) : blen a ≤ 32 * e := by
  rw [show 4294967296 ^ e = 2 ^ (32 * e) by rw [Nat.pow_mul]] at h
  by_cases h0 : a = 0
  · unfold blen; rw [if_pos h0]; omega
  · have h1 : blen a = Nat.log2 a + 1 := by unfold blen; rw [if_neg h0]
    have h2 := (Nat.log2_lt h0).2 h
    omega

theorem pow_limbs {k e : Nat} (h : k ≤ 32 * e) : 2 ^ k ≤ 4294967296 ^ e := by
  rw [show 4294967296 ^ e = 2 ^ (32 * e) by rw [Nat.pow_mul]]
  exact Nat.pow_le_pow_right (by omega) h

theorem near_len {a c d x : Nat} (h : Near a c d x) (ha : a < 4294967296 ^ 150) : x < 4294967296 ^ 76 := by
  obtain ⟨_, _, h3, _⟩ := h
  have h5 : a / 4 ^ (c - d) ≤ a := Nat.div_le_self _ _
  have e : (4294967296 : Nat) ^ 150 = 4294967296 ^ 75 * 4294967296 ^ 75 := by rw [← Nat.pow_add]
  rw [e] at ha
  have e2 : (4294967296 : Nat) ^ 76 = 4294967296 ^ 75 * 4294967296 := Nat.pow_succ ..
  rw [e2]
  generalize (4294967296 : Nat) ^ 75 = B at *
  rcases Nat.lt_or_ge x (B * 4294967296) with h | h
  · exact h
  · exfalso
    have hB : 0 < B := by
      rcases Nat.eq_zero_or_pos B with h | h
      · subst h; omega
      · exact h
    have h6 : B + 1 ≤ x := by omega
    have h7 := Nat.mul_le_mul (show B ≤ x - 1 by omega) (show B ≤ x - 1 by omega)
    have c1 : (((x - 1) * (x - 1) : Nat) : Int) = ((x : Int) - 1) * (x - 1) := by rw [Int.natCast_mul, Int.ofNat_sub (by omega)]; rfl
    omega

set_option maxRecDepth 100000 in
set_option maxHeartbeats 4000000 in
theorem root_any (a : Nat) (ao : Option Addr) (n ca : Nat) (w : World) (h : Sl w ao n ca (limbs a)) (hn : n ≤ 150) (h0 : a ≠ 0) :
    Calls Tryz.prog 87 #[.slice ao n ca] w fun e w' => ∃ ro k rc s, e = .returned (.slice ro k rc) ∧ Sl w' ro k rc (limbs s) ∧ s * s ≤ a ∧ a < (s + 1) * (s + 1) ∧ Below w.heap.size w w' := by
  have hn0 : ((n : Int) == 0) = false := by
    apply beq_eq_false_iff_ne.2
    intro e
    have hl := h.len
    exact h0 (limbs_inj ((List.eq_nil_of_length_eq_zero (by omega)).trans limbs_zero.symm))
  obtain ⟨c, hc, c0, c1, c2⟩ := half_bits h0
  have hL : blen a ≤ 4800 := by
    have h1 : blen a ≤ 32 * n := blen_limbs ((limbs_len_le a n).1 (by rw [h.len]; exact Nat.le_refl _))
    omega
  have hL0 : 1 ≤ blen a := by omega
  have HA := Lib.hid (show a < 4294967296 ^ 150 from Nat.lt_of_lt_of_le ((limbs_len_le a n).1 (by rw [h.len]; exact Nat.le_refl _)) (pow_le' hn))
  have HC := Lib.hid hc; clear hc
  obtain ⟨L, hLL⟩ : ∃ L, blen a = L := ⟨_, rfl⟩
  rw [hLL] at hL hL0 c2 HC
  have HL := Lib.hid hLL; clear hLL
  have C0 := Lib.hid c0; clear c0
  have C1 := Lib.hid c1; clear c1
  have hcb : c ≤ 2400 := by omega
  go_enter Tryz.func87, Tryz.ntmps87
  go_wp2_with fail
  refine (bitLen_any a ao n ca w h (by omega)).mono ?_
  rintro e w1 ⟨rfl, rfl⟩
  rw [HL.out]
  go_wp2_with fail
  rw [HC.out]
  refine (Tryz.bits_Len (c : Int) _ (by omega) (by omega)).mono ?_
  rintro e w2 ⟨rfl, rfl⟩
  rw [Int.toNat_natCast]
  obtain ⟨bl, hbl⟩ : ∃ bl, Lib.bitLen c = bl := ⟨_, rfl⟩
  have hb1 : ∀ j, j < bl → 1 ≤ c / 2 ^ j := by
    intro j hj
    by_cases h0 : c = 0
    · rw [h0, bitLen_zero] at hbl; omega
    · obtain ⟨l, e, l0, _⟩ := bitLen_spec c h0 (by omega)
      have := Nat.pow_le_pow_right (show 0 < 2 by omega) (show j ≤ l by omega)
      exact (Nat.le_div_iff_mul_le (Nat.pos_of_ne_zero (by simp))).2 (by omega)
  have hb2 : c / 2 ^ bl = 0 := by
    by_cases h0 : c = 0
    · rw [h0]; simp
    · obtain ⟨l, e, _, l1⟩ := bitLen_spec c h0 (by omega)
      rw [hbl] at e
      rw [e]; exact Nat.div_eq_of_lt l1
  have hb3 : bl ≤ 64 := by have := bitLen_32 (x := c) (by omega); omega
  rw [hbl]
  have HB1 := Lib.hid hb1
  have HB2 := Lib.hid hb2
  clear hb1 hb2 hbl
  have hbw := (Below.refl w.heap.size w).alloc (Nat.le_refl _) (.cells #[.int .u32 1] 66)
  have hone : Blk (w.alloc (.cells #[.int .u32 1] 66)) w.heap.size [1] := heap_alloc_new w _
  have hl1 : limbs 1 = [1] := by rw [limbs_pos (by omega), limbs_zero]; rfl
  have hsone := hone.sl (n := 1) (cap := 1) (Wf.cons (by omega) Wf.nil) rfl (by omega) (Nat.le_refl _)
  rw [← hl1] at hsone
  have h' := h.below hbw
  generalize w.alloc (.cells #[.int .u32 1] 66) = W at *
  have HBW := Lib.hid hbw
  clear hone hl1 h
  go_wp2
  go_loopw [4, 5, 6, 7, 8, 9] (fun r d i _ _ _ wr => ∃ (j x : Nat) (ro : Option Addr) (rk rc : Nat), j ≤ bl ∧ i = .int .i64 ((j : Int) - 1) ∧ d = .int .i64 ((c / 2 ^ j : Nat) : Int) ∧ r = .slice ro rk rc ∧ Sl wr ro rk rc (limbs x) ∧ rk ≤ 76 ∧ Near a c (c / 2 ^ j) x ∧ Below W.heap.size W wr)
    (fun _ _ i _ _ _ _ => (intOf i + 1).toNat)
  case atStart => exact ⟨bl, 1, _, 1, 1, Nat.le_refl _, rfl, by rw [HB2.out]; rfl, rfl, hsone, by omega, by rw [HB2.out]; exact Near.start C0.out C1.out, Below.refl _ _⟩
  case round =>
    obtain ⟨j, x, ro, rk, rc, hj, rfl, rfl, rfl, hx, hrk, hN, hB⟩ := hrel
    have HN := Lib.hid hN; clear hN
    by_cases hlt : 0 < j
    · obtain ⟨t, rfl⟩ : ∃ t, j = t + 1 := ⟨j - 1, by omega⟩
      have ej : ((t + 1 : Nat) : Int) - 1 = (t : Int) := by omega
      rw [ej]
      clear ej
      obtain ⟨g1, g2, g3⟩ := halves c t (HB1.out t (by omega))
      have hst := HN.out.step C0.out g1 g2 g3
      obtain ⟨E, hE⟩ : ∃ E, c / 2 ^ (t + 1) = E := ⟨_, rfl⟩
      obtain ⟨D, hD⟩ : ∃ D, c / 2 ^ t = D := ⟨_, rfl⟩
      rw [hE, hD] at g1 g2 hst
      rw [hD] at g3
      rw [hE]
      have HST := Lib.hid hst; clear hst
      have HE := Lib.hid hE; clear hE
      have hDi : (c : Int) / 2 ^ t = (D : Int) := by rw [← hD]; rw [Int.natCast_ediv, Int.natCast_pow]; rfl
      have HD := Lib.hid hD; clear hD
      have ha2 := h'.below hB
      have k1 : E + 1 ≤ D := by omega
      have k2 : D ≤ 2 * E + 1 := by omega
      have ex1 : (2 * (c : Int) - E - D + 1) = ((2 * c - E - D + 1 : Nat) : Int) := by omega
      have ex2 : ((D : Int) - E - 1) = ((D - E - 1 : Nat) : Int) := by omega
      have EX1 := Lib.hid ex1
      have EX2 := Lib.hid ex2
      clear g1 g2 ex1 ex2
      go_wp2_with fail
      rw [EX1.out]
      have hx0 : x ≠ 0 := by
        have := HN.out.2.1
        have hp : 0 < 2 ^ (c / 2 ^ (t + 1)) := Nat.pos_of_ne_zero (by simp)
        omega
      refine (shiftDown_any a (2 * c - E - D + 1) ao n ca _ ha2 (by omega) (by omega)).mono ?_
      rintro e w3 ⟨so, sk, sc, rfl, hs3, hw3⟩
      have hx3 := hx.below hw3
      have hB3 := hB.trans (hw3.mono hB.size)
      have hsk : sk ≤ n := by
        have h1 := limbs_mono (Nat.div_le_self a (2 ^ (2 * c - E - D + 1)))
        rw [ha2.len, hs3.len] at h1
        exact h1
      clear hx hB hw3 ha2
      go_wp2_with fail
      refine (div_says (a / 2 ^ (2 * c - E - D + 1)) x hx0 so ro sk rk sc rc w3 hs3 hx3 (by omega) (by omega)).mono ?_
      rintro e w4 ⟨qo, qk, qc, eo, ek, ec, rfl, hq4, he4, hw4⟩
      have hx4 := hx3.below hw4
      have hB4 := hB3.trans (hw4.mono hB3.size)
      have hqk : qk ≤ n := by
        have h1 := limbs_mono (Nat.div_le_self (a / 2 ^ (2 * c - E - D + 1)) x)
        rw [hs3.len, hq4.len] at h1
        omega
      clear hx3 hB3 hw4 hs3 he4
      go_wp2_with fail
      rw [EX2.out]
      refine (shiftUp_any x (D - E - 1) ro rk rc _ hx4 (by omega) (by omega)).mono ?_
      rintro e w5 ⟨uo, uk, uc, rfl, hu5, hw5⟩
      have hq5 := hq4.below hw5
      have hB5 := hB4.trans (hw5.mono hB4.size)
      clear hx4 hB4 hw5 hq4
      have huk : uk ≤ 1000 := by
        have h1 := near_len HN.out HA.out
        have h2 : 2 ^ (D - E - 1) ≤ 4294967296 ^ 75 := pow_limbs (by omega)
        have h3 : x * 2 ^ (D - E - 1) < 4294967296 ^ (76 + 75) := by
          rw [Nat.pow_add]
          exact Nat.mul_lt_mul_of_lt_of_le h1 h2 (Nat.pos_of_ne_zero (by simp))
        have h4 := (limbs_len_le _ _).2 h3
        rw [hu5.len] at h4
        omega
      go_wp2_with fail
      refine (plus_any _ _ _ _ _ _ _ _ _ hu5 hq5 (by omega) (by omega)).mono ?_
      rintro e w6 ⟨po, pk, pc, rfl, hp6, hw6⟩
      have hB6 := hB5.trans (hw6.mono hB5.size)
      go_wp2
      go_roundw
      case rel => exact ⟨t, _, po, pk, pc, by omega, rfl, by rw [HD.out], rfl, hp6, by rw [← hp6.len]; exact (limbs_len_le _ _).2 (near_len HST.out HA.out), by rw [HD.out]; exact HST.out, hB6⟩
      case measure => simp [intOf] <;> omega
    · obtain rfl : j = 0 := by omega
      have hN0 := HN.out
      rw [Nat.pow_zero, Nat.div_one] at hN0
      have hfin := hN0.finish
      have hx1 : 1 ≤ x := Nat.le_trans (Nat.pos_of_ne_zero (by simp)) hN0.2.1
      have HF := Lib.hid hfin
      clear hfin hN0
      have ha2 := h'.below hB
      go_wp2_with fail
      refine (times_any x x ro ro rk rk rc rc _ hx hx (by omega) (by omega) (by omega)).mono ?_
      rintro e w3 ⟨so, sk, sc, rfl, hs3, hw3⟩
      have hx3 := hx.below hw3
      have ha3 := ha2.below hw3
      have hB3 := hB.trans (hw3.mono hB.size)
      clear hx hB hw3 ha2
      go_wp2_with fail
      refine (compare_any (x * x) a _ _ _ _ _ _ w3 hs3 ha3).mono ?_
      rintro e w4 ⟨rfl, q, rfl⟩
      obtain ⟨W4, hW4, hq⟩ := drewN_world w3 q
      rw [hW4]
      clear hW4
      have hx4 := hx3.below hq
      have hB4 := hB3.trans (hq.mono hB3.size)
      clear hx3 ha3 hs3 hB3 hq
      by_cases hlt : a < x * x
      · have hs : sgn3 ((x * x : Nat) : Int) a = 1 := by unfold sgn3; rw [if_neg (by omega), if_pos (by omega)]
        rw [hs]
        have HLT := Lib.hid hlt; clear hlt hs
        go_wp2_with fail
        have hone : Blk (W4.alloc (.cells #[.int .u32 1] 66)) W4.heap.size [1] := heap_alloc_new W4 _
        have hb4 := (Below.refl W4.heap.size W4).alloc (Nat.le_refl _) (.cells #[.int .u32 1] 66)
        have hl1 : limbs 1 = [1] := by rw [limbs_pos (by omega), limbs_zero]; rfl
        have hs1 := hone.sl (n := 1) (cap := 1) (Wf.cons (by omega) Wf.nil) rfl (by omega) (Nat.le_refl _)
        rw [← hl1] at hs1
        refine (minus_any x 1 _ _ _ _ _ _ _ (hx4.below hb4) hs1 hx1).mono ?_
        rintro e w5 ⟨mo, mk, mc, rfl, hm5, hw5⟩
        have hB5 := hB4.trans ((hb4.trans (hw5.mono (by simp))).mono hB4.size)
        clear hone hb4 hl1 hs1 hw5
        go_wp2
        go_ret
        have hf := HF.out
        rw [if_pos HLT.out] at hf
        exact ⟨mo, mk, mc, x - 1, rfl, hm5, hf.1, hf.2, HBW.out.trans (hB5.mono (by have := HBW.out.size; omega))⟩
      · have hs : sgn3 ((x * x : Nat) : Int) a ≤ 0 := by unfold sgn3; rw [if_neg (show ¬ (a : Int) < ((x * x : Nat) : Int) by omega)]; split <;> omega
        generalize sgn3 ((x * x : Nat) : Int) a = s at *
        have HLT := Lib.hid hlt; clear hlt
        go_wp2
        go_ret
        have hf := HF.out
        rw [if_neg HLT.out] at hf
        exact ⟨ro, rk, rc, x, rfl, hx4, hf.1, hf.2, HBW.out.trans (hB4.mono (by have := HBW.out.size; omega))⟩
end Go.Proofs.YtlpclahlolhjfaaGreatDoor

namespace Go.Proofs.YtlpclahlolhjfaaGreatDoor

theorem two_pos (k : Nat) : (0 : Int) < 2 ^ k := Int.pow_pos (by omega)
/-- a dyad: none if it is not representable, otherwise the odd integer and the exponent (or two zeros) -/
abbrev Dy := Option (Int × Int)

/-- the integer in units of 2^-65536; not for none -/
def sc : Dy → Int
  | none => 0
  | some (m, e) => m * 2 ^ (e + 65536).toNat

end Go.Proofs.YtlpclahlolhjfaaGreatDoor

namespace Go.Proofs.YtlpclahlolhjfaaGreatDoor
open Go.RowKit

set_option maxRecDepth 100000 in
set_option maxHeartbeats 1000000 in
theorem place_any (a : Int) (m : Nat) (w : World) (hm : 0 < m) (hm1 : m ≤ 1000000000) :
    Calls Tryz.prog 15 #[.int .i64 a, .int .i64 (m : Int)] w fun e w' => ∃ j : Nat, j < m ∧ e = .returned (.int .i64 j) ∧ w = w' := by
  have e1 : a % 18446744073709551616 % (m : Int) = ((a % 18446744073709551616 % (m : Int)).toNat : Int) := (Int.toNat_of_nonneg (Int.emod_nonneg _ (by omega))).symm
  have e2 : (a % 18446744073709551616 % (m : Int)).toNat < m := by have := Int.emod_lt_of_pos (a % 18446744073709551616) (show (0 : Int) < m by omega); omega
  go_enter Tryz.func15, Tryz.ntmps15
  go_wp2
  go_ret
  refine ⟨_, e2, ?_, rfl⟩
  have e3 : (IntKind.u64.wrap a).tmod (m : Int) = a % 18446744073709551616 % (m : Int) := by
    rw [IntKind.wrap_u64, Int.tmod_eq_emod_of_nonneg (by omega)]
  show Ending.returned (.int .i64 (wrap64 ((IntKind.u64.wrap a).tmod (m : Int)))) = _
  rw [e3]
  have e4 : wrap64 ((a % 18446744073709551616 % (m : Int)).toNat : Int) = ((a % 18446744073709551616 % (m : Int)).toNat : Int) := by
    generalize (a % 18446744073709551616 % (m : Int)).toNat = j at *
    unfold wrap64
    omega
  rw [(congrArg wrap64 e1).trans e4]

section
variable {W w : World} {L : List Ent} {u : Value} {x : Int} {N : Nat} {c : Bool}

end
end Go.Proofs.YtlpclahlolhjfaaGreatDoor

namespace Go.Proofs.YtlpclahlolhjfaaGreatDoor
open Go.RowKit

section
variable {W w w' : World} {g : Nat} {bb nb : Bool} {ao : Option Addr} {n ca : Nat} {e : Int}
end

/-- a shift down by any number of bits, none included -/
theorem shift_down0 (nb : Bool) (ao : Option Addr) (n cap : Nat) (x : Int) (k : Nat) (w : World) (h : Bg w nb ao n cap x) (hk : k ≤ 1048576) (hT : Table w) :
    Calls Tryz.prog 41 #[.agg #[.bool nb, .slice ao n cap], .int .i64 (-(k : Int))] w fun e w' => ∃ nr ro l cr, e = .returned (.tuple #[.agg #[.bool nr, .slice ro l cr], .int .i64 0]) ∧ Bn w' nr ro l cr (x / 2 ^ k) ∧ Below w.heap.size w w' := by
  rcases Nat.eq_zero_or_pos k with rfl | hk0
  · have := shift_left nb ao n cap x 0 w h (by omega)
    simpa using this
  · exact shift_right nb ao n cap x k w h hk hk0 hT

theorem cast2 (c s k : Nat) : ((c ^ s * 2 ^ k : Nat) : Int) = (c : Int) ^ s * 2 ^ k := by push_cast; rfl
end Go.Proofs.YtlpclahlolhjfaaGreatDoor
