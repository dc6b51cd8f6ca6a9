import Derived.Test.YtekocoklfnojmaaGreatDoorIMiddleU31
import Derived.Test.YtekocoklfnojmaaGreatDoorIMiddleU19
import Derived.Test.YtekocoklfnojmaaGreatDoorIMiddleU21
namespace Go.Proofs.YtekocoklfnojmaaGreatDoor
open Go.RowKit

theorem Own.of_blk {w : World} {B g : Nat} {L : List Int} (h : Blk w g L) (hB : B ≤ g) (hn : L.length ≤ 1099511627776) : Own w B (.slice (some ⟨g, 0, none⟩) L.length L.length) L := by
  refine ⟨by simp, Or.inr ⟨g, L.length, _, rfl, hB, h, Nat.le_refl _, by unfold maxLen; omega, by simp, ?_⟩⟩
  simp only [Nat.mul_one]
  exact List.take_of_length_le (by simp)

theorem or_low64 {z q : Int} {k : Nat} (hk : k < 32) (z0 : 0 ≤ z) (z1 : z < 2 ^ k) (q0 : 0 ≤ q) (q1 : q < 4294967296) : bits BinOp.or IntKind.u64 z (q * 2 ^ k) = z + q * 2 ^ k ∧ 0 ≤ z + q * 2 ^ k ∧ z + q * 2 ^ k < 4294967296 * 2 ^ k := by
  obtain ⟨a, rfl⟩ := Int.eq_ofNat_of_zero_le z0
  obtain ⟨b, rfl⟩ := Int.eq_ofNat_of_zero_le q0
  have hp := two_pos k
  have h1 : a < 2 ^ k := by
    have : ((a : Nat) : Int) < ((2 ^ k : Nat) : Int) := by rw [Int.natCast_pow]; exact z1
    exact Int.ofNat_lt.1 this
  have h3 : 2 ^ k < 2 ^ 32 := Nat.pow_lt_pow_right (by omega) hk
  have h2 : b * 2 ^ k < 18446744073709551616 := by
    have : b * 2 ^ k < 4294967296 * 2 ^ 32 := Nat.mul_lt_mul'' (by omega) h3
    exact this
  have e := bits_or_u64_nat a (b * 2 ^ k) (by omega) h2
  have e2 : a ||| b * 2 ^ k = a + b * 2 ^ k := by
    have := Nat.two_pow_add_eq_or_of_lt h1 b
    rw [Nat.or_comm, Nat.mul_comm b, ← this]; omega
  rw [e2, Int.natCast_add, Int.natCast_mul, Int.natCast_pow] at e
  refine ⟨e, ?_, ?_⟩
  · have := Int.mul_nonneg q0 (Int.le_of_lt hp); omega
  · have := Int.mul_le_mul_of_nonneg_right (show (b : Int) + 1 ≤ 4294967296 by omega) (Int.le_of_lt hp)
    rw [Int.add_mul, Int.one_mul] at this
    omega

theorem wrap_shl64 {q : Int} {k : Nat} (hk : k < 32) (q0 : 0 ≤ q) (q1 : q < 4294967296) : IntKind.u64.wrap (q * 2 ^ k) = q * 2 ^ k := by
  have hp := two_pos k
  have h0 := Int.mul_nonneg q0 (Int.le_of_lt hp)
  have h1 := Int.mul_lt_mul_of_pos_right q1 hp
  have h2 : (4294967296 : Int) * 2 ^ k ≤ 18446744073709551616 := by
    have h3 := Int.pow_lt_pow_of_lt (show (1 : Int) < 2 by omega) hk
    have h4 : (2 : Int) ^ 32 = 4294967296 := rfl
    omega
  rw [IntKind.wrap_u64]
  exact Int.emod_eq_of_lt h0 (by omega)

/-- q limbs are shifted, c goes over -/
def ShlAt (zs : List Int) (k q : Nat) (L : List Int) (c : Int) : Prop := L.length = q ∧ Wf L ∧ 0 ≤ c ∧ c < 2 ^ k ∧ num L + 4294967296 ^ q * c = num (zs.take q) * 2 ^ k

theorem ShlAt.step {zs L : List Int} {k q : Nat} {c t : Int} (h : ShlAt zs k q L c) (hq : q < zs.length) (ht : t = c + zs.getD q 0 * 2 ^ k) (t0 : 0 ≤ t) (t1 : t < 4294967296 * 2 ^ k) : ShlAt zs k (q + 1) (L ++ [t % 4294967296]) (t / 4294967296) := by
  obtain ⟨h1, h2, h3, h4, h5⟩ := h
  refine ⟨by simp [h1], h2.append (Wf.cons ⟨by omega, by omega⟩ Wf.nil), by omega, by omega, ?_⟩
  rw [num_append, h1, num_take_succ zs q hq, Int.pow_succ]
  simp only [num]
  have e : t % 4294967296 + 4294967296 * (t / 4294967296) = t := by omega
  have e2 : (4294967296 : Int) ^ q * (t % 4294967296) + 4294967296 ^ q * 4294967296 * (t / 4294967296) = 4294967296 ^ q * t := by
    rw [Int.mul_assoc, ← Int.mul_add, e]
  have e3 : (4294967296 : Int) ^ q * t = 4294967296 ^ q * c + 4294967296 ^ q * zs.getD q 0 * 2 ^ k := by rw [ht, Int.mul_add, ← Int.mul_assoc]
  rw [Int.add_mul]
  simp only [Int.mul_zero, Int.add_zero]
  omega

set_option maxRecDepth 100000 in
set_option maxHeartbeats 2000000 in
theorem refShl_any (zs : List Int) (s k : Nat) (ao : Option Addr) (n ca : Nat) (w : World) (ha : Sl w ao n ca zs) (hk : k < 32) (hn : n ≤ 1000000000) (hs : s ≤ 1000000000) :
    Calls Tryz.prog 228 #[.slice ao n ca, .int .i64 ((s * 32 + k : Nat) : Int)] w fun e w' => ∃ ro l cr L, e = .returned (.slice ro l cr) ∧ Sl w' ro l cr L ∧ num L = num zs * 4294967296 ^ s * 2 ^ k ∧ l = s + n + 1 ∧ Ext w w' := by
  have hd : ((s * 32 + k : Nat) : Int) / 32 = (s : Int) := by omega
  have hr : ((s * 32 + k : Nat) : Int) % 32 = (k : Int) := by omega
  obtain ⟨x, hx⟩ : ∃ x : Int, ((s * 32 + k : Nat) : Int) = x := ⟨_, rfl⟩
  rw [hx] at hd hr ⊢
  have hx0 : 0 ≤ x := by omega
  have hx1 : x ≤ 100000000000 := by omega
  have HX := Lib.hid hx; clear hx
  have hal := ha.len
  have HAL := Lib.hid hal; clear hal
  have hwz := ha.wf
  go_enter Tryz.func228, Tryz.ntmps228
  go_wp2_with (refine wpList_make_u32 _ rfl _ _ rfl _ s rfl rfl (by omega) (by omega) ?_)
  intro w1 hb1 hw1
  have hown0 := Own.of_blk hb1 (Nat.le_refl _) (by simp; omega)
  simp only [List.length_replicate] at hown0
  generalize hBe : w.heap.size = B at *
  have HBe := Lib.hid hBe; clear hBe hb1
  go_wp2
  go_loopw [5, 6, 7] (fun v c i wr => ∃ (q : Nat) (L : List Int) (cc : Int), q ≤ n ∧ i = .int .i64 q ∧ c = .int .u64 cc ∧ ShlAt zs k q L cc ∧ Own wr B v (List.replicate s 0 ++ L) ∧ Below B w wr) (fun _ _ i _ => n - (intOf i).toNat)
  case atStart => exact ⟨0, [], 0, Nat.zero_le _, rfl, rfl, ⟨rfl, Wf.nil, Int.le_refl _, two_pos k, by simp [num]⟩, by simpa using hown0, hw1⟩
  case round =>
    obtain ⟨q, L, cc, hq, rfl, rfl, hsh, hown, hB⟩ := hrel
    have hlen : (List.replicate s (0 : Int) ++ L).length = s + q := by rw [List.length_append, List.length_replicate, hsh.1]
    have hc0 := hsh.2.2.1
    have hc1 := hsh.2.2.2.1
    have HSH := Lib.hid hsh; clear hsh
    have hszq : B ≤ wr.heap.size := by have := hB.size; have := HBe.out; omega
    have HSZ := Lib.hid hszq; clear hszq
    have hlq : (List.replicate s (0 : Int) ++ L).length ≤ 1099511627776 := by omega
    have HLQ := Lib.hid hlq; clear hlq
    have HLEN := Lib.hid hlen; clear hlen
    by_cases hlt : q < n
    · obtain ⟨b, off, e0, hc⟩ := (ha.below (by rw [HBe.out]; exact hB)).cells (by rw [HAL.out]; omega)
      subst e0
      have c1 := hc q (by rw [HAL.out]; omega)
      clear hc
      obtain ⟨y, hy⟩ : ∃ y, zs.getD q 0 = y := ⟨_, rfl⟩
      have hyr := hwz.getD q
      rw [hy] at c1 hyr
      obtain ⟨y0, y1⟩ := hyr
      have HY := Lib.hid hy; clear hy
      have hor := or_low64 hk hc0 hc1 y0 y1
      have HOR := Lib.hid hor
      have HWR := Lib.hid (wrap_shl64 hk y0 y1)
      clear hor
      go_wp2_with (at_builtin; refine wpList_append_u32 _ rfl (.tmp 27) (.tmp 30) rfl B _ (List.replicate s 0 ++ L) _ rfl rfl hown HSZ.out HLQ.out ?_)
      intro v' w2 hown' hB1
      go_wp2
      go_roundw
      case rel =>
        rw [HWR.out, HOR.out.1] at hown' ⊢
        have h1 := HSH.out.step (by rw [HAL.out]; exact hlt) (t := cc + y * 2 ^ k) (by rw [HY.out]) HOR.out.2.1 HOR.out.2.2
        exact ⟨q + 1, _, _, by omega, by go_num, rfl, h1, hown', hB.trans hB1⟩
      case measure => simp [intOf] <;> omega
    · obtain rfl : q = n := by omega
      go_wp2_with (at_builtin; refine wpList_append_u32 _ rfl (.tmp 34) (.tmp 37) rfl B _ (List.replicate s 0 ++ L) _ rfl rfl hown HSZ.out HLQ.out ?_)
      intro v' w2 hown' hB1
      have hcc : cc % 4294967296 = cc := by
        have h3 := Int.pow_lt_pow_of_lt (show (1 : Int) < 2 by omega) hk
        have h4 : (2 : Int) ^ 32 = 4294967296 := rfl
        exact Int.emod_eq_of_lt hc0 (by omega)
      rw [hcc] at hown'
      have hwf : Wf (List.replicate s 0 ++ (L ++ [cc])) := (Wf.replicate s).append (HSH.out.2.1.append (Wf.cons ⟨hc0, by omega⟩ Wf.nil))
      have hll : (List.replicate s (0 : Int) ++ (L ++ [cc])).length = s + q + 1 := by
        rw [List.length_append, List.length_append, List.length_replicate, HSH.out.1]; rfl
      have hnum : num (List.replicate s 0 ++ (L ++ [cc])) = num zs * 4294967296 ^ s * 2 ^ k := by
        have h5 := HSH.out.2.2.2.2
        rw [List.take_of_length_le (by rw [HAL.out]; exact Nat.le_refl _)] at h5
        rw [num_append, num_append, num_replicate, List.length_replicate, HSH.out.1]
        simp only [num]
        rw [Int.mul_zero, Int.add_zero, h5, Int.zero_add, Int.mul_comm (num zs), ← Int.mul_assoc, Int.mul_comm (num zs), Int.mul_right_comm, Int.mul_assoc]
      obtain ⟨ro, rc, rfl, hsl⟩ := hown'.sl hwf (by rw [hll]; omega)
      have HSL := Lib.hid hsl
      have HNUM := Lib.hid hnum
      have HLL := Lib.hid hll
      clear hsl hnum hown' hwf hll
      go_wp2
      go_ret
      exact ⟨ro, _, rc, _, rfl, HSL.out, HNUM.out, HLL.out, by rw [Ext, HBe.out]; exact hB.trans hB1⟩
end Go.Proofs.YtekocoklfnojmaaGreatDoor

namespace Go.Proofs.YtekocoklfnojmaaGreatDoor
open Go.RowKit

set_option maxRecDepth 100000 in
set_option maxHeartbeats 1000000 in
theorem refBitLen_any (nb : Bool) (ao : Option Addr) (n cap : Nat) (x : Int) (w : World) (h : Bg w nb ao n cap x) :
    Calls Tryz.prog 186 #[.agg #[.bool nb, .slice ao n cap]] w fun e w' => e = .returned (.int .i64 (blen x.natAbs)) ∧ Below w.heap.size w w' := by
  obtain ⟨⟨zs, hs, hx⟩, hsm⟩ := h
  have eax : (num zs).toNat = x.natAbs := by rw [hx, sgd_natAbs hs.wf]
  clear hx
  go_enter Tryz.func186, Tryz.ntmps186
  go_wp2_with fail
  obtain ⟨W, hW, hB, hbx, hsz⟩ := box_new w nb ao n cap
  rw [← hW]
  clear hW
  have hs0 := hs.below hB
  generalize hBe : w.heap.size = B at *
  have HBe := Lib.hid hBe; clear hBe
  have k0 := hbx.c0
  have k1 := hbx.c1
  go_wp2_with fail
  refine (refTrim_any ao n cap zs W hs0).mono ?_
  rintro e w1 ⟨ro, k, rc, rfl, hs1, hk, hw1⟩
  rw [eax] at hs1
  obtain ⟨h1, z1⟩ := bnext hB (by omega) hw1
  have HH := Lib.hid h1; clear h1
  clear k0 k1 hbx hs0 hs hB hw1 eax
  obtain ⟨a, ha⟩ : ∃ a, x.natAbs = a := ⟨_, rfl⟩
  rw [ha] at hs1
  have HA := Lib.hid ha; clear ha
  rcases k with _ | m
  · have h0 : a = 0 := limbs_inj ((List.eq_nil_of_length_eq_zero hs1.len).trans limbs_zero.symm)
    go_wp2
    go_ret
    exact ⟨by rw [HA.out, h0]; rfl, by rw [HBe.out]; exact HH.out⟩
  · have hb := blen_top hs1.len
    obtain ⟨b, off, rfl, hc⟩ := hs1.cells (by rw [hs1.len]; omega)
    have c1 := hc m (by rw [hs1.len]; omega)
    clear hc
    have hxr := (Wf.limbs a).getD m
    obtain ⟨y, hy⟩ : ∃ y, (limbs a).getD m 0 = y := ⟨_, rfl⟩
    rw [hy] at c1 hxr hb
    obtain ⟨x0, x1⟩ := hxr
    clear hy
    have HB := Lib.hid hb; clear hb
    have em : ((m : Int) + 1 == 0) = false := by apply beq_eq_false_iff_ne.2; omega
    have hl : (Lib.bitLen y.toNat : Int) ≤ 32 := by
      have := bitLen_32 (x := y.toNat) (by omega)
      omega
    go_wp2_with fail
    refine (Tryz.bits_Len32 y w1 x0 (by omega)).mono ?_
    rintro e w2 ⟨rfl, rfl⟩
    go_wp2
    go_ret
    refine ⟨?_, by rw [HBe.out]; exact HH.out⟩
    rw [HA.out, ← HB.out, Int.mul_comm (m : Int) 32]
    rfl

set_option maxRecDepth 100000 in
set_option maxHeartbeats 1000000 in
theorem refTz_any (nb : Bool) (ao : Option Addr) (n cap : Nat) (x : Int) (w : World) (h : Bg w nb ao n cap x) (hT : Table w) :
    Calls Tryz.prog 184 #[.agg #[.bool nb, .slice ao n cap]] w fun e w' => e = .returned (.int .i64 (tzf x.natAbs)) ∧ Below w.heap.size w w' := by
  obtain ⟨⟨zs, hs, hx⟩, hsm⟩ := h
  have eax : (num zs).toNat = x.natAbs := by rw [hx, sgd_natAbs hs.wf]
  clear hx
  go_enter Tryz.func184, Tryz.ntmps184
  go_wp2_with fail
  obtain ⟨W, hW, hB, hbx, hsz⟩ := box_new w nb ao n cap
  rw [← hW]
  clear hW
  have hs0 := hs.below hB
  have HTW := Lib.hid (hT.below hB); clear hT
  generalize hBe : w.heap.size = B at *
  have HBe := Lib.hid hBe; clear hBe
  have k0 := hbx.c0
  have k1 := hbx.c1
  go_wp2_with fail
  refine (refTrim_any ao n cap zs W hs0).mono ?_
  rintro e w1 ⟨ro, k, rc, rfl, hs1, hk, hw1⟩
  rw [eax] at hs1
  obtain ⟨h1, z1⟩ := bnext hB (by omega) hw1
  have HH := Lib.hid h1; clear h1
  have HT := Lib.hid (HTW.out.below hw1)
  clear k0 k1 hbx hs0 hs hB hw1 eax HTW
  obtain ⟨a, ha⟩ : ∃ a, x.natAbs = a := ⟨_, rfl⟩
  rw [ha] at hs1
  have HA := Lib.hid ha; clear ha
  have hl := hs1.len
  have hkn : k ≤ 1000000000 := by omega
  have HL := Lib.hid hl; clear hl
  go_wp2
  go_loop [4] (fun i => ∃ j : Nat, j ≤ k ∧ i = .int .i64 j ∧ ∀ i, i < j → (limbs a).getD i 0 = 0) (fun i => k - (intOf i).toNat)
  case atStart => exact ⟨0, Nat.zero_le _, rfl, fun i hi => absurd hi (Nat.not_lt_zero _)⟩
  case round =>
    obtain ⟨j, hj, rfl, hz⟩ := hrel
    have HZ := Lib.hid hz; clear hz
    by_cases hlt : j < k
    · obtain ⟨b, off, rfl, hc⟩ := hs1.cells (by rw [HL.out]; omega)
      have c1 := hc j (by rw [HL.out]; omega)
      clear hc
      have hxr := (Wf.limbs a).getD j
      obtain ⟨y, hy⟩ : ∃ y, (limbs a).getD j 0 = y := ⟨_, rfl⟩
      rw [hy] at c1 hxr
      obtain ⟨x0, x1⟩ := hxr
      have HX := Lib.hid hy; clear hy
      by_cases hy : y = 0
      · subst hy
        go_wp2
        go_round
        case rel =>
          refine ⟨j + 1, by omega, by go_num, fun i hi => ?_⟩
          rcases Nat.lt_or_ge i j with h | h
          · exact HZ.out i h
          · obtain rfl : i = j := by omega
            exact HX.out
        case measure => simp [intOf] <;> omega
      · have hy0 : (y == 0) = false := beq_eq_false_iff_ne.2 hy
        have hct := ctz_lt (x := y.toNat) (by omega) (by omega)
        have hxn : ((y.toNat : Nat) : Int) = y := Int.toNat_of_nonneg x0
        have HI := Lib.hid (tz_limbs HZ.out (HX.out.trans hxn.symm) (by omega) (by omega) (by rw [HL.out]; exact hlt))
        have hz32 := tz32_any y.toNat (by omega) (by omega) w1 HT.out
        rw [hxn] at hz32
        have HTZ := Lib.hid hz32
        clear hz32 hxn hy
        generalize Lib.ctz 32 y.toNat = t at *
        go_wp2_with fail
        refine HTZ.out.mono ?_
        rintro e w2 ⟨rfl, rfl⟩
        go_wp2
        go_ret
        refine ⟨?_, by rw [HBe.out]; exact HH.out⟩
        rw [HA.out, ← tzf_of HI.out, Int.natCast_add, Int.natCast_mul, Int.mul_comm]
        rfl
    · obtain rfl : j = k := by omega
      have h0 : a = 0 := by
        rcases Nat.eq_zero_or_pos a with h | h
        · exact h
        · exfalso
          have hlow : num ((limbs a).take j) = 0 := by
            have : ∀ k, k ≤ j → num ((limbs a).take k) = 0 := by
              intro k
              induction k with
              | zero => intro _; simp [num]
              | succ k ih => intro hk; rw [num_take_succ _ _ (by rw [HL.out]; omega), ih (by omega), HZ.out k (by omega)]; simp
            exact this j (Nat.le_refl _)
          rw [List.take_of_length_le (by rw [HL.out]; exact Nat.le_refl _), num_limbs] at hlow
          omega
      have H0 := Lib.hid h0; clear h0
      go_wp2
      go_ret
      exact ⟨by rw [HA.out, H0.out, tzf_zero]; rfl, by rw [HBe.out]; exact HH.out⟩
end Go.Proofs.YtekocoklfnojmaaGreatDoor
