import Derived.Test.YtapcecjbmcoliaaGreatDoorACauU37
import Derived.Test.YtapcecjbmcoliaaGreatDoorACauU19
import Derived.Test.YtapcecjbmcoliaaGreatDoorACauU20
import Derived.Deep.RegionWith
import Derived.Deep.CutRange
namespace Go.Proofs.YtapcecjbmcoliaaGreatDoor
open Go.RowKit

theorem Own.of_blk {w : World} {B g : Nat} {L : List Int} (h : Blk w g L) (hB : B ≤ g) (hn : L.length ≤ 1099511627776) : Own w B (.slice (some ⟨g, 0, none⟩) L.length L.length) L := by
  refine ⟨by simp, Or.inr ⟨g, L.length, _, rfl, hB, h, Nat.le_refl _, by unfold maxLen; omega, by simp, ?_⟩⟩
  simp only [Nat.mul_one]
  exact List.take_of_length_le (by simp)

theorem or_low64 {z q : Int} {k : Nat} (hk : k < 32) (z0 : 0 ≤ z) (z1 : z < 2 ^ k) (q0 : 0 ≤ q) (q1 : q < 4294967296) : bits BinOp.or IntKind.u64 z (q * 2 ^ k) = z + q * 2 ^ k ∧ 0 ≤ z + q * 2 ^ k ∧ z + q * 2 ^ k < 4294967296 * 2 ^ k := by
  obtain ⟨a, rfl⟩ := Int.eq_ofNat_of_zero_le z0
  obtain ⟨b, rfl⟩ := Int.eq_ofNat_of_zero_le q0
  have hp := two_pos k
  have h1 : a < 2 ^ k := by
    have : ((a : Nat) : Int) < ((2 ^ k : Nat) : Int) := by rw [Int.natCast_pow]; exact z1
    exact Int.ofNat_lt.1 this
  have h3 : 2 ^ k < 2 ^ 32 := Nat.pow_lt_pow_right (by omega) hk
  have h2 : b * 2 ^ k < 18446744073709551616 := by
    have : b * 2 ^ k < 4294967296 * 2 ^ 32 := Nat.mul_lt_mul'' (by omega) h3
    exact this
  have e := bits_or_u64_nat a (b * 2 ^ k) (by omega) h2
  have e2 : a ||| b * 2 ^ k = a + b * 2 ^ k := by
    have := Nat.two_pow_add_eq_or_of_lt h1 b
    rw [Nat.or_comm, Nat.mul_comm b, ← this]; omega
  rw [e2, Int.natCast_add, Int.natCast_mul, Int.natCast_pow] at e
  refine ⟨e, ?_, ?_⟩
  · have := Int.mul_nonneg q0 (Int.le_of_lt hp); omega
  · have := Int.mul_le_mul_of_nonneg_right (show (b : Int) + 1 ≤ 4294967296 by omega) (Int.le_of_lt hp)
    rw [Int.add_mul, Int.one_mul] at this
    omega

theorem wrap_shl64 {q : Int} {k : Nat} (hk : k < 32) (q0 : 0 ≤ q) (q1 : q < 4294967296) : IntKind.u64.wrap (q * 2 ^ k) = q * 2 ^ k := by
  have hp := two_pos k
  have h0 := Int.mul_nonneg q0 (Int.le_of_lt hp)
  have h1 := Int.mul_lt_mul_of_pos_right q1 hp
  have h2 : (4294967296 : Int) * 2 ^ k ≤ 18446744073709551616 := by
    have h3 := Int.pow_lt_pow_of_lt (show (1 : Int) < 2 by omega) hk
    have h4 : (2 : Int) ^ 32 = 4294967296 := rfl
    omega
  rw [IntKind.wrap_u64]
  exact Int.emod_eq_of_lt h0 (by omega)

/-- q limbs are shifted, c goes over -/
def ShlAt (zs : List Int) (k q : Nat) (L : List Int) (c : Int) : Prop := L.length = q ∧ Wf L ∧ 0 ≤ c ∧ c < 2 ^ k ∧ num L + 4294967296 ^ q * c = num (zs.take q) * 2 ^ k

theorem ShlAt.step {zs L : List Int} {k q : Nat} {c t : Int} (h : ShlAt zs k q L c) (hq : q < zs.length) (ht : t = c + zs.getD q 0 * 2 ^ k) (t0 : 0 ≤ t) (t1 : t < 4294967296 * 2 ^ k) : ShlAt zs k (q + 1) (L ++ [t % 4294967296]) (t / 4294967296) := by
  obtain ⟨h1, h2, h3, h4, h5⟩ := h
  refine ⟨by simp [h1], h2.append (Wf.cons ⟨by omega, by omega⟩ Wf.nil), by omega, by omega, ?_⟩
  rw [num_append, h1, num_take_succ zs q hq, Int.pow_succ]
  simp only [num]
  have e : t % 4294967296 + 4294967296 * (t / 4294967296) = t := by omega
  have e2 : (4294967296 : Int) ^ q * (t % 4294967296) + 4294967296 ^ q * 4294967296 * (t / 4294967296) = 4294967296 ^ q * t := by
    rw [Int.mul_assoc, ← Int.mul_add, e]
  have e3 : (4294967296 : Int) ^ q * t = 4294967296 ^ q * c + 4294967296 ^ q * zs.getD q 0 * 2 ^ k := by rw [ht, Int.mul_add, ← Int.mul_assoc]
  rw [Int.add_mul]
  simp only [Int.mul_zero, Int.add_zero]
  omega

set_option maxRecDepth 100000 in
set_option maxHeartbeats 2000000 in
theorem refShl_any (zs : List Int) (s k : Nat) (ao : Option Addr) (n ca : Nat) (w : World) (ha : Sl w ao n ca zs) (hk : k < 32) (hn : n ≤ 1000000000) (hs : s ≤ 1000000000) :
    Calls Tryz.prog 113 #[.slice ao n ca, .int .i64 ((s * 32 + k : Nat) : Int)] w fun e w' => ∃ ro l cr L, e = .returned (.slice ro l cr) ∧ Sl w' ro l cr L ∧ num L = num zs * 4294967296 ^ s * 2 ^ k ∧ l = s + n + 1 ∧ Ext w w' := by
  have hd : ((s * 32 + k : Nat) : Int) / 32 = (s : Int) := by omega
  have hr : ((s * 32 + k : Nat) : Int) % 32 = (k : Int) := by omega
  obtain ⟨x, hx⟩ : ∃ x : Int, ((s * 32 + k : Nat) : Int) = x := ⟨_, rfl⟩
  rw [hx] at hd hr ⊢
  have hx0 : 0 ≤ x := by omega
  have hx1 : x ≤ 100000000000 := by omega
  have HX := Lib.hid hx; clear hx
  have hal := ha.len
  have HAL := Lib.hid hal; clear hal
  have hwz := ha.wf
  go_enter Tryz.func113, Tryz.ntmps113
  go_wp2_with (refine wpList_make_u32 _ rfl _ _ rfl _ s rfl rfl (by omega) (by omega) ?_)
  intro w1 hb1 hw1
  have hown0 := Own.of_blk hb1 (Nat.le_refl _) (by simp; omega)
  simp only [List.length_replicate] at hown0
  generalize hBe : w.heap.size = B at *
  have HBe := Lib.hid hBe; clear hBe hb1
  go_wp2
  go_loopw [5, 6, 7] (fun v c i wr => ∃ (q : Nat) (L : List Int) (cc : Int), q ≤ n ∧ i = .int .i64 q ∧ c = .int .u64 cc ∧ ShlAt zs k q L cc ∧ Own wr B v (List.replicate s 0 ++ L) ∧ Below B w wr) (fun _ _ i _ => n - (intOf i).toNat)
  case atStart => exact ⟨0, [], 0, Nat.zero_le _, rfl, rfl, ⟨rfl, Wf.nil, Int.le_refl _, two_pos k, by simp [num]⟩, by simpa using hown0, hw1⟩
  case round =>
    obtain ⟨q, L, cc, hq, rfl, rfl, hsh, hown, hB⟩ := hrel
    have hlen : (List.replicate s (0 : Int) ++ L).length = s + q := by rw [List.length_append, List.length_replicate, hsh.1]
    have hc0 := hsh.2.2.1
    have hc1 := hsh.2.2.2.1
    have HSH := Lib.hid hsh; clear hsh
    have hszq : B ≤ wr.heap.size := by have := hB.size; have := HBe.out; omega
    have HSZ := Lib.hid hszq; clear hszq
    have hlq : (List.replicate s (0 : Int) ++ L).length ≤ 1099511627776 := by omega
    have HLQ := Lib.hid hlq; clear hlq
    have HLEN := Lib.hid hlen; clear hlen
    by_cases hlt : q < n
    · obtain ⟨b, off, e0, hc⟩ := (ha.below (by rw [HBe.out]; exact hB)).cells (by rw [HAL.out]; omega)
      subst e0
      have c1 := hc q (by rw [HAL.out]; omega)
      clear hc
      obtain ⟨y, hy⟩ : ∃ y, zs.getD q 0 = y := ⟨_, rfl⟩
      have hyr := hwz.getD q
      rw [hy] at c1 hyr
      obtain ⟨y0, y1⟩ := hyr
      have HY := Lib.hid hy; clear hy
      have hor := or_low64 hk hc0 hc1 y0 y1
      have HOR := Lib.hid hor
      have HWR := Lib.hid (wrap_shl64 hk y0 y1)
      clear hor
      go_wp2_with (at_builtin; refine wpList_append_u32 _ rfl (.tmp 27) (.tmp 30) rfl B _ (List.replicate s 0 ++ L) _ rfl rfl hown HSZ.out HLQ.out ?_)
      intro v' w2 hown' hB1
      go_wp2
      go_roundw
      case rel =>
        rw [HWR.out, HOR.out.1] at hown' ⊢
        have h1 := HSH.out.step (by rw [HAL.out]; exact hlt) (t := cc + y * 2 ^ k) (by rw [HY.out]) HOR.out.2.1 HOR.out.2.2
        exact ⟨q + 1, _, _, by omega, by go_num, rfl, h1, hown', hB.trans hB1⟩
      case measure => simp [intOf] <;> omega
    · obtain rfl : q = n := by omega
      go_wp2_with (at_builtin; refine wpList_append_u32 _ rfl (.tmp 34) (.tmp 37) rfl B _ (List.replicate s 0 ++ L) _ rfl rfl hown HSZ.out HLQ.out ?_)
      intro v' w2 hown' hB1
      have hcc : cc % 4294967296 = cc := by
        have h3 := Int.pow_lt_pow_of_lt (show (1 : Int) < 2 by omega) hk
        have h4 : (2 : Int) ^ 32 = 4294967296 := rfl
        exact Int.emod_eq_of_lt hc0 (by omega)
      rw [hcc] at hown'
      have hwf : Wf (List.replicate s 0 ++ (L ++ [cc])) := (Wf.replicate s).append (HSH.out.2.1.append (Wf.cons ⟨hc0, by omega⟩ Wf.nil))
      have hll : (List.replicate s (0 : Int) ++ (L ++ [cc])).length = s + q + 1 := by
        rw [List.length_append, List.length_append, List.length_replicate, HSH.out.1]; rfl
      have hnum : num (List.replicate s 0 ++ (L ++ [cc])) = num zs * 4294967296 ^ s * 2 ^ k := by
        have h5 := HSH.out.2.2.2.2
        rw [List.take_of_length_le (by rw [HAL.out]; exact Nat.le_refl _)] at h5
        rw [num_append, num_append, num_replicate, List.length_replicate, HSH.out.1]
        simp only [num]
        rw [Int.mul_zero, Int.add_zero, h5, Int.zero_add, Int.mul_comm (num zs), ← Int.mul_assoc, Int.mul_comm (num zs), Int.mul_right_comm, Int.mul_assoc]
      obtain ⟨ro, rc, rfl, hsl⟩ := hown'.sl hwf (by rw [hll]; omega)
      have HSL := Lib.hid hsl
      have HNUM := Lib.hid hnum
      have HLL := Lib.hid hll
      clear hsl hnum hown' hwf hll
      go_wp2
      go_ret
      exact ⟨ro, _, rc, _, rfl, HSL.out, HNUM.out, HLL.out, by rw [Ext, HBe.out]; exact hB.trans hB1⟩
end Go.Proofs.YtapcecjbmcoliaaGreatDoor

namespace Go.Proofs.YtapcecjbmcoliaaGreatDoor
open Go.RowKit

set_option maxRecDepth 100000 in
set_option maxHeartbeats 1000000 in
theorem refBitLen_any (nb : Bool) (ao : Option Addr) (n cap : Nat) (x : Int) (w : World) (h : Bg w nb ao n cap x) :
    Calls Tryz.prog 84 #[.agg #[.bool nb, .slice ao n cap]] w fun e w' => e = .returned (.int .i64 (blen x.natAbs)) ∧ Below w.heap.size w w' := by
  obtain ⟨⟨zs, hs, hx⟩, hsm⟩ := h
  have eax : (num zs).toNat = x.natAbs := by rw [hx, sgd_natAbs hs.wf]
  clear hx
  go_enter Tryz.func84, Tryz.ntmps84
  go_wp2_with fail
  obtain ⟨W, hW, hB, hbx, hsz⟩ := box_new w nb ao n cap
  rw [← hW]
  clear hW
  have hs0 := hs.below hB
  generalize hBe : w.heap.size = B at *
  have HBe := Lib.hid hBe; clear hBe
  have k0 := hbx.c0
  have k1 := hbx.c1
  go_wp2_with fail
  refine (refTrim_any ao n cap zs W hs0).mono ?_
  rintro e w1 ⟨ro, k, rc, rfl, hs1, hk, hw1⟩
  rw [eax] at hs1
  obtain ⟨h1, z1⟩ := bnext hB (by omega) hw1
  have HH := Lib.hid h1; clear h1
  clear k0 k1 hbx hs0 hs hB hw1 eax
  obtain ⟨a, ha⟩ : ∃ a, x.natAbs = a := ⟨_, rfl⟩
  rw [ha] at hs1
  have HA := Lib.hid ha; clear ha
  rcases k with _ | m
  · have h0 : a = 0 := limbs_inj ((List.eq_nil_of_length_eq_zero hs1.len).trans limbs_zero.symm)
    go_wp2
    go_ret
    exact ⟨by rw [HA.out, h0]; rfl, by rw [HBe.out]; exact HH.out⟩
  · have hb := blen_top hs1.len
    obtain ⟨b, off, rfl, hc⟩ := hs1.cells (by rw [hs1.len]; omega)
    have c1 := hc m (by rw [hs1.len]; omega)
    clear hc
    have hxr := (Wf.limbs a).getD m
    obtain ⟨y, hy⟩ : ∃ y, (limbs a).getD m 0 = y := ⟨_, rfl⟩
    rw [hy] at c1 hxr hb
    obtain ⟨x0, x1⟩ := hxr
    clear hy
    have HB := Lib.hid hb; clear hb
    have em : ((m : Int) + 1 == 0) = false := by apply beq_eq_false_iff_ne.2; omega
    have hl : (Lib.bitLen y.toNat : Int) ≤ 32 := by
      have := bitLen_32 (x := y.toNat) (by omega)
      omega
    go_wp2_with fail
    refine (Tryz.bits_Len32 y w1 x0 (by omega)).mono ?_
    rintro e w2 ⟨rfl, rfl⟩
    go_wp2
    go_ret
    refine ⟨?_, by rw [HBe.out]; exact HH.out⟩
    rw [HA.out, ← HB.out, Int.mul_comm (m : Int) 32]
    rfl

set_option maxRecDepth 100000 in
set_option maxHeartbeats 1000000 in
theorem refTz_any (nb : Bool) (ao : Option Addr) (n cap : Nat) (x : Int) (w : World) (h : Bg w nb ao n cap x) (hT : Table w) :
    Calls Tryz.prog 91 #[.agg #[.bool nb, .slice ao n cap]] w fun e w' => e = .returned (.int .i64 (tzf x.natAbs)) ∧ Below w.heap.size w w' := by
  obtain ⟨⟨zs, hs, hx⟩, hsm⟩ := h
  have eax : (num zs).toNat = x.natAbs := by rw [hx, sgd_natAbs hs.wf]
  clear hx
  go_enter Tryz.func91, Tryz.ntmps91
  go_wp2_with fail
  obtain ⟨W, hW, hB, hbx, hsz⟩ := box_new w nb ao n cap
  rw [← hW]
  clear hW
  have hs0 := hs.below hB
  have HTW := Lib.hid (hT.below hB); clear hT
  generalize hBe : w.heap.size = B at *
  have HBe := Lib.hid hBe; clear hBe
  have k0 := hbx.c0
  have k1 := hbx.c1
  go_wp2_with fail
  refine (refTrim_any ao n cap zs W hs0).mono ?_
  rintro e w1 ⟨ro, k, rc, rfl, hs1, hk, hw1⟩
  rw [eax] at hs1
  obtain ⟨h1, z1⟩ := bnext hB (by omega) hw1
  have HH := Lib.hid h1; clear h1
  have HT := Lib.hid (HTW.out.below hw1)
  clear k0 k1 hbx hs0 hs hB hw1 eax HTW
  obtain ⟨a, ha⟩ : ∃ a, x.natAbs = a := ⟨_, rfl⟩
  rw [ha] at hs1
  have HA := Lib.hid ha; clear ha
  have hl := hs1.len
  have hkn : k ≤ 1000000000 := by omega
  have HL := Lib.hid hl; clear hl
  go_wp2
  go_loop [4] (fun i => ∃ j : Nat, j ≤ k ∧ i = .int .i64 j ∧ ∀ i, i < j → (limbs a).getD i 0 = 0) (fun i => k - (intOf i).toNat)
  case atStart => exact ⟨0, Nat.zero_le _, rfl, fun i hi => absurd hi (Nat.not_lt_zero _)⟩
  case round =>
    obtain ⟨j, hj, rfl, hz⟩ := hrel
    have HZ := Lib.hid hz; clear hz
    by_cases hlt : j < k
    · obtain ⟨b, off, rfl, hc⟩ := hs1.cells (by rw [HL.out]; omega)
      have c1 := hc j (by rw [HL.out]; omega)
      clear hc
      have hxr := (Wf.limbs a).getD j
      obtain ⟨y, hy⟩ : ∃ y, (limbs a).getD j 0 = y := ⟨_, rfl⟩
      rw [hy] at c1 hxr
      obtain ⟨x0, x1⟩ := hxr
      have HX := Lib.hid hy; clear hy
      by_cases hy : y = 0
      · subst hy
        go_wp2
        go_round
        case rel =>
          refine ⟨j + 1, by omega, by go_num, fun i hi => ?_⟩
          rcases Nat.lt_or_ge i j with h | h
          · exact HZ.out i h
          · obtain rfl : i = j := by omega
            exact HX.out
        case measure => simp [intOf] <;> omega
      · have hy0 : (y == 0) = false := beq_eq_false_iff_ne.2 hy
        have hct := ctz_lt (x := y.toNat) (by omega) (by omega)
        have hxn : ((y.toNat : Nat) : Int) = y := Int.toNat_of_nonneg x0
        have HI := Lib.hid (tz_limbs HZ.out (HX.out.trans hxn.symm) (by omega) (by omega) (by rw [HL.out]; exact hlt))
        have hz32 := tz32_any y.toNat (by omega) (by omega) w1 HT.out
        rw [hxn] at hz32
        have HTZ := Lib.hid hz32
        clear hz32 hxn hy
        generalize Lib.ctz 32 y.toNat = t at *
        go_wp2_with fail
        refine HTZ.out.mono ?_
        rintro e w2 ⟨rfl, rfl⟩
        go_wp2
        go_ret
        refine ⟨?_, by rw [HBe.out]; exact HH.out⟩
        rw [HA.out, ← tzf_of HI.out, Int.natCast_add, Int.natCast_mul, Int.mul_comm]
        rfl
    · obtain rfl : j = k := by omega
      have h0 : a = 0 := by
        rcases Nat.eq_zero_or_pos a with h | h
        · exact h
        · exfalso
          have hlow : num ((limbs a).take j) = 0 := by
            have : ∀ k, k ≤ j → num ((limbs a).take k) = 0 := by
              intro k
              induction k with
              | zero => intro _; simp [num]
              | succ k ih => intro hk; rw [num_take_succ _ _ (by rw [HL.out]; omega), ih (by omega), HZ.out k (by omega)]; simp
            exact this j (Nat.le_refl _)
          rw [List.take_of_length_le (by rw [HL.out]; exact Nat.le_refl _), num_limbs] at hlow
          omega
      have H0 := Lib.hid h0; clear h0
      go_wp2
      go_ret
      exact ⟨by rw [HA.out, H0.out, tzf_zero]; rfl, by rw [HBe.out]; exact HH.out⟩
end Go.Proofs.YtapcecjbmcoliaaGreatDoor

namespace Go.Proofs.YtapcecjbmcoliaaGreatDoor
open Go.RowKit

theorem bn_abs {w : World} {nr : Bool} {ro : Option Addr} {k rc : Nat} {zs : List Int} {x : Int} {nb : Bool} (hx : x = sgd nb zs) (hz : Wf zs) (h : Bn w nr ro k rc (sgd false zs)) : Bn w nr ro k rc x.natAbs := by
  have e : (x.natAbs : Int) = sgd false zs := by
    rw [hx, sgd_natAbs hz, Int.toNat_of_nonneg (num_nonneg hz)]; rfl
  rw [e]; exact h

set_option maxRecDepth 100000 in
set_option maxHeartbeats 1000000 in
theorem refAbs_any (nb : Bool) (ao : Option Addr) (n cap : Nat) (x : Int) (w : World) (h : Bg w nb ao n cap x) :
    Calls Tryz.prog 60 #[.agg #[.bool nb, .slice ao n cap]] w fun e w' => ∃ nr ro k cr, e = .returned (.agg #[.bool nr, .slice ro k cr]) ∧ Bn w' nr ro k cr x.natAbs ∧ k ≤ n ∧ Below w.heap.size w w' := by
  obtain ⟨⟨zs, hs, hx⟩, hsm⟩ := h
  have HX := Lib.hid hx; clear hx
  go_enter Tryz.func60, Tryz.ntmps60
  go_wp2_with fail
  obtain ⟨W, hW, hB, hbx, hrx, hz⟩ := boxes1 w nb ao n cap
  rw [← hW]
  clear hW
  have hs0 := hs.below hB
  generalize hBe : w.heap.size = B at *
  have HBe := Lib.hid hBe; clear hBe
  have k0 := hbx.c0
  have k1 := hbx.c1
  go_wp2_with fail
  refine (make1_any false ao n cap zs W hs0).mono ?_
  rintro e w1 ⟨nr, ro, k, rc, rfl, hs1, hk, hw1⟩
  have b1 := hrx.below hw1
  obtain ⟨h1, z1⟩ := bnext hB (by omega) hw1
  have q0 := b1.c0
  have q1 := b1.c1
  have q2 := b1.f 0
  have q3 := b1.f 1
  have hst := b1.stored nr ro k rc
  have u0 := hst.c0
  have u1 := hst.c1
  have hres : Bn ((w1.setCell ⟨B + 1, 0, none⟩ (.bool nr)).setCell ⟨B + 1, 1, none⟩ (.slice ro k rc)) nr ro k rc x.natAbs := bn_abs HX.out hs.wf ⟨hs1.neg, hs1.sl.only_box b1 (only_set2 _ _ _ _)⟩
  have hbl := h1.trans ((only_set2 w1 (B + 1) (.bool nr) (.slice ro k rc)).below (Nat.le_succ B))
  have HRES := Lib.hid hres; clear hres
  go_wp2
  refine bodyPost_ret (v := .agg #[.bool nr, .slice ro k rc]) (by simp [results, Tryz.results60, go_sem, u0, u1]) rfl ⟨_, ro, k, rc, rfl, HRES.out, hk, ?_⟩
  rw [HBe.out]; exact hbl

theorem pow32i (s k : Nat) : (2 : Int) ^ (s * 32 + k) = 4294967296 ^ s * 2 ^ k := by
  have := cast2 4294967296 s k
  have e := congrArg (Nat.cast (R := Int)) (pow32 s k)
  rw [Int.natCast_pow] at e
  exact e.trans this

/-- a magnitude shifted up -/
theorem refShl_num (a e : Nat) (ao : Option Addr) (n ca : Nat) (w : World) (ha : Sl w ao n ca (limbs a)) (hn : n ≤ 1000000000) (he : e ≤ 30000000000) :
    Calls Tryz.prog 113 #[.slice ao n ca, .int .i64 (e : Int)] w fun r w' => ∃ ro l cr L, r = .returned (.slice ro l cr) ∧ Sl w' ro l cr L ∧ num L = ((a * 2 ^ e : Nat) : Int) ∧ l = e / 32 + n + 1 ∧ Ext w w' := by
  have h := refShl_any (limbs a) (e / 32) (e % 32) ao n ca w ha (by omega) hn (by omega)
  have e1 : e / 32 * 32 + e % 32 = e := by omega
  have e2 : num (limbs a) * 4294967296 ^ (e / 32) * 2 ^ (e % 32) = ((a * 2 ^ e : Nat) : Int) := by
    rw [num_limbs, Int.natCast_mul, Int.natCast_pow]
    conv => rhs; rw [← e1]
    rw [Int.mul_assoc]
    congr 1
    exact (pow32i _ _).symm
  rw [e1, e2] at h
  exact h

/-- a magnitude shifted down -/
theorem refShr_num (a e : Nat) (ao : Option Addr) (n ca : Nat) (w : World) (ha : Sl w ao n ca (limbs a)) (hn : n ≤ 1000000000) (he : e ≤ 30000000000) :
    Calls Tryz.prog 114 #[.slice ao n ca, .int .i64 (e : Int)] w fun r w' => ∃ ro l cr L, r = .returned (.tuple #[.slice ro l cr, .bool (decide (a % 2 ^ e ≠ 0))]) ∧ Sl w' ro l cr L ∧ num L = ((a / 2 ^ e : Nat) : Int) ∧ l ≤ n ∧ Ext w w' := by
  have h := refShr_any (limbs a) (e / 32) (e % 32) ao n ca w ha (by omega) hn (by omega)
  have e1 : e / 32 * 32 + e % 32 = e := by omega
  rw [e1] at h
  refine h.mono fun r w' ⟨ro, l, cr, hr, hsl, hw⟩ => ⟨ro, l, cr, _, ?_, hsl, ?_, ?_, hw⟩
  · rw [hr, num_limbs]
    have e3 : ((a : Int) % 2 ^ e ≠ 0) ↔ (a % 2 ^ e ≠ 0) := by
      have : (a : Int) % 2 ^ e = ((a % 2 ^ e : Nat) : Int) := by rw [Int.natCast_emod, Int.natCast_pow]; rfl
      rw [this]; omega
    rw [decide_eq_decide.2 e3]
  · rw [num_shr (by omega)]
    by_cases hs : e / 32 ≤ n
    · rw [num_drop_div (Wf.limbs a) _ (by rw [ha.len]; exact hs), num_limbs]
      conv => rhs; rw [← e1, pow32, ← Nat.div_div_eq_div_mul, Int.natCast_ediv, Int.natCast_ediv, Int.natCast_pow, Int.natCast_pow]
      rfl
    · rw [List.drop_eq_nil_of_le (by rw [ha.len]; omega)]
      have h1 := (limbs_len_le a n).1 (by rw [ha.len]; exact Nat.le_refl _)
      have h2 : a < 2 ^ e := by
        have h3 : 4294967296 ^ n ≤ 2 ^ e := by
          rw [← e1, pow32]
          have := pow_le' (show n ≤ e / 32 by omega)
          exact Nat.le_trans this (Nat.le_mul_of_pos_right _ (Nat.pow_pos (by omega)))
        omega
      rw [Nat.div_eq_of_lt h2]
      simp [num]
  · have := hsl.len
    rw [shr_length, List.length_drop, ha.len] at this
    omega

theorem bn_num {w : World} {nr nb : Bool} {ro : Option Addr} {k rc : Nat} {L : List Int} {a : Nat} {x : Int} (h : Bn w nr ro k rc (sgd nb L)) (hL : num L = (a : Int)) (hx : x = if nb then -(a : Int) else a) : Bn w nr ro k rc x := by
  have : sgd nb L = x := by unfold sgd; rw [hL, hx]
  rwa [this] at h

set_option maxRecDepth 100000 in
set_option maxHeartbeats 4000000 in
/-- a shift down by at least a bit, of a number that is not negative -/
theorem refShift_down (nb : Bool) (ao : Option Addr) (n cap : Nat) (x : Int) (e : Nat) (w : World) (h : Bg w nb ao n cap x) (h0 : 0 ≤ x) (he0 : 0 < e) (he : e ≤ 1048576) :
    Calls Tryz.prog 87 #[.agg #[.bool nb, .slice ao n cap], .int .i64 (-(e : Int))] w fun r w' => ∃ nr ro k cr, r = .returned (.agg #[.bool nr, .slice ro k cr]) ∧ Bn w' nr ro k cr (x / 2 ^ e) ∧ k ≤ n ∧ Ext w w' := by
  obtain ⟨ei, hei⟩ : ∃ ei : Int, (e : Int) = ei := ⟨_, rfl⟩
  have hei0 : 0 < ei := by omega
  have hei1 : ei ≤ 1048576 := by omega
  rw [hei]
  have HEI := Lib.hid hei; clear hei
  have hsm := h.small
  go_enter Tryz.func87, Tryz.ntmps87
  go_upto_region 1 with fail
  obtain ⟨W, hW, hB, hbx, hrx, hz⟩ := boxes1 w nb ao n cap
  rw [← hW]
  clear hW
  have h1 := h.below hB
  generalize hBe : w.heap.size = B at *
  have HBe := Lib.hid hBe; clear hBe
  have k0 := hbx.c0
  have k1 := hbx.c1
  go_wp2_with fail
  refine (refNorm_any nb ao n cap x W h1).mono ?_
  rintro r w1 ⟨nr, ro, k, rc, rfl, hs1, hk, hw1⟩
  have a1 := hbx.below hw1
  have b1 := hrx.below hw1
  have hB1 := bnext hB (by omega) hw1
  have ho := only_set2 w1 B (.bool nr) (.slice ro k rc)
  have a2 := a1.stored nr ro k rc
  have b2 := b1.only ho (by omega)
  have hn2 : Bn ((w1.setCell ⟨B, 0, none⟩ (.bool nr)).setCell ⟨B, 1, none⟩ (.slice ro k rc)) nr ro k rc x := ⟨hs1.neg, hs1.sl.only_box a1 ho⟩
  have hB2 := hB1.1.trans (ho.below (Nat.le_refl B))
  have hz2 : B + 2 ≤ ((w1.setCell ⟨B, 0, none⟩ (.bool nr)).setCell ⟨B, 1, none⟩ (.slice ro k rc)).heap.size := by rw [ho.size]; have := hw1.size; omega
  have k0 := a1.c0
  have k1 := a1.c1
  have k2 := a1.f 0
  have k3 := a1.f 1
  go_upto_region 2 with fail
  clear k0 k1 k2 k3 a1 b1 ho hw1 hbx hrx hs1
  generalize (w1.setCell ⟨B, 0, none⟩ (.bool nr)).setCell ⟨B, 1, none⟩ (.slice ro k rc) = V at *
  have hneg : nr = false := by rw [hn2.neg]; simp; omega
  subst hneg
  have k0 := a2.c0
  have k1 := a2.c1
  have HN := Lib.hid hn2
  have hsl := hn2.sl
  clear hn2
  have hcall := refShr_num x.natAbs e ro k rc V hsl (by omega) (by omega)
  rw [HEI.out] at hcall
  have HC := Lib.hid hcall; clear hcall hsl
  go_wp2_with fail
  refine HC.out.mono ?_
  rintro r w3 ⟨so, l, sc, L, rfl, hL, hnum, hl, hw3⟩
  have b3 := b2.below hw3
  have a3 := a2.below hw3
  have hB3 := bnext hB2 (by omega) hw3
  have k0 := a3.c0
  have k1 := a3.c1
  have HNUM := Lib.hid hnum; clear hnum
  generalize decide (x.natAbs % 2 ^ e ≠ 0) = lost
  go_wp2_with fail
  refine (make1_any false so l sc L w3 hL).mono ?_
  rintro r w4 ⟨mr, mo, j, mc, rfl, hm4, hj, hw4⟩
  have b4 := b3.below hw4
  have a4 := a3.below hw4
  have hB4 := bnext hB3.1 hB3.2 hw4
  clear k0 k1 HC a2 a3 b2 b3 hL
  go_upto_region 6 with fail
  obtain ⟨Z, hZ, hZB, c5, hz5⟩ := box_new w4 mr mo j mc
  rw [← hZ]
  clear hZ
  have b5 := b4.below hZB
  have a5 := a4.below hZB
  have hm5 := hm4.below hZB
  obtain ⟨hB5, hB5'⟩ := bnext hB4.1 hB4.2 hZB
  have k0 := a5.c0
  have k1 := a5.c1
  have l0 := c5.c0
  have l1 := c5.c1
  have q0 := b5.c0
  have q1 := b5.c1
  have q2 := b5.f 0
  have q3 := b5.f 1
  have z3 := b5.stored mr mo j mc
  have z0 := z3.c0
  have z1 := z3.c1
  have hres : Bn ((Z.setCell ⟨B + 1, 0, none⟩ (.bool mr)).setCell ⟨B + 1, 1, none⟩ (.slice mo j mc)) mr mo j mc (x / 2 ^ e) := by
    refine bn_num (nb := false) (a := x.natAbs / 2 ^ e) ⟨hm5.neg, hm5.sl.only_box b5 (only_set2 _ _ _ _)⟩ HNUM.out ?_
    rw [if_neg (by decide), Int.natCast_ediv, Int.natCast_pow, Int.natAbs_of_nonneg h0]; rfl
  have hbl := hB5.trans ((only_set2 Z (B + 1) (.bool mr) (.slice mo j mc)).below (Nat.le_succ B))
  have HRES := Lib.hid hres; clear hres
  go_wp2
  refine bodyPost_ret (v := .agg #[.bool mr, .slice mo j mc]) (by simp [results, Tryz.results87, go_sem, z0, z1]) rfl ⟨_, mo, j, mc, rfl, HRES.out, by omega, ?_⟩
  show Below _ _ _
  rw [HBe.out]; exact hbl

set_option maxRecDepth 100000 in
set_option maxHeartbeats 4000000 in
/-- a shift up -/
theorem refShift_up (nb : Bool) (ao : Option Addr) (n cap : Nat) (x : Int) (e : Nat) (w : World) (h : Bg w nb ao n cap x) (he : e ≤ 1048576) :
    Calls Tryz.prog 87 #[.agg #[.bool nb, .slice ao n cap], .int .i64 (e : Int)] w fun r w' => ∃ nr ro k cr, r = .returned (.agg #[.bool nr, .slice ro k cr]) ∧ Bn w' nr ro k cr (x * 2 ^ e) ∧ k ≤ e / 32 + n + 1 ∧ Ext w w' := by
  obtain ⟨ei, hei⟩ : ∃ ei : Int, (e : Int) = ei := ⟨_, rfl⟩
  have hei0 : 0 ≤ ei := by omega
  have hei1 : ei ≤ 1048576 := by omega
  rw [hei]
  have HEI := Lib.hid hei; clear hei
  have hsm := h.small
  go_enter Tryz.func87, Tryz.ntmps87
  go_upto_region 1 with fail
  obtain ⟨W, hW, hB, hbx, hrx, hz⟩ := boxes1 w nb ao n cap
  rw [← hW]
  clear hW
  have h1 := h.below hB
  generalize hBe : w.heap.size = B at *
  have HBe := Lib.hid hBe; clear hBe
  have k0 := hbx.c0
  have k1 := hbx.c1
  go_wp2_with fail
  refine (refNorm_any nb ao n cap x W h1).mono ?_
  rintro r w1 ⟨nr, ro, k, rc, rfl, hs1, hk, hw1⟩
  have a1 := hbx.below hw1
  have b1 := hrx.below hw1
  have hB1 := bnext hB (by omega) hw1
  have ho := only_set2 w1 B (.bool nr) (.slice ro k rc)
  have a2 := a1.stored nr ro k rc
  have b2 := b1.only ho (by omega)
  have hn2 : Bn ((w1.setCell ⟨B, 0, none⟩ (.bool nr)).setCell ⟨B, 1, none⟩ (.slice ro k rc)) nr ro k rc x := ⟨hs1.neg, hs1.sl.only_box a1 ho⟩
  have hB2 := hB1.1.trans (ho.below (Nat.le_refl B))
  have hz2 : B + 2 ≤ ((w1.setCell ⟨B, 0, none⟩ (.bool nr)).setCell ⟨B, 1, none⟩ (.slice ro k rc)).heap.size := by rw [ho.size]; have := hw1.size; omega
  have k0 := a1.c0
  have k1 := a1.c1
  have k2 := a1.f 0
  have k3 := a1.f 1
  go_upto_region 2 with fail
  clear k0 k1 k2 k3 a1 b1 ho hw1 hbx hrx hs1
  generalize (w1.setCell ⟨B, 0, none⟩ (.bool nr)).setCell ⟨B, 1, none⟩ (.slice ro k rc) = V at *
  have k0 := a2.c0
  have k1 := a2.c1
  have HN := Lib.hid hn2
  have hsl := hn2.sl
  clear hn2
  have hcall : ∀ wx, Ext V wx → Calls Tryz.prog 113 #[.slice ro k rc, .int .i64 (e : Int)] wx fun r w' => ∃ ro l cr L, r = .returned (.slice ro l cr) ∧ Sl w' ro l cr L ∧ num L = ((x.natAbs * 2 ^ e : Nat) : Int) ∧ l = e / 32 + k + 1 ∧ Ext wx w' :=
    fun wx hx => refShl_num x.natAbs e ro k rc wx (hsl.below hx) (by omega) (by omega)
  rw [HEI.out] at hcall
  have HC := Lib.hid hcall; clear hcall hsl
  have HA := Lib.hid a2
  have HB := Lib.hid b2
  have q0 := b2.c0
  have q1 := b2.c1
  have q2 := b2.f 0
  have q3 := b2.f 1
  clear a2 b2
  go_wp2_with fail
  go_region_with (first
    | (go_at_call 113; refine (HC.out _ (by exact (Below.refl _ _).drew)).mono ?_; rintro r w3 ⟨so, l, sc, L, rfl, hL, hnum, hl, hw3⟩; have HNUM := Lib.hid hnum; have HLL := Lib.hid hl; clear hnum hl; have hw3 : Ext V w3 := Ext.trans (by exact (Below.refl _ _).drew) hw3; have b3 := HB.out.below hw3; have a3 := HA.out.below hw3; have p0 := a3.c0; have p1 := a3.c1; have g0 := b3.f 0; have g1 := b3.f 1)
    | (go_at_call 90; refine (make1_any nr so l sc L w3 hL).mono ?_; rintro r w4 ⟨mr, mo, j, mc, rfl, hm4, hj, hw4⟩; have b4 := b3.below hw4; have e0 := b4.c0; have e1 := b4.c1; have f0 := b4.f 0; have f1 := b4.f 1))
  all_goals
    clear k0 k1 q0 q1 q2 q3 p0 p1 g0 g1
    have z3 := b4.stored mr mo j mc
    have z0 := z3.c0
    have z1 := z3.c1
    have hres : Bn ((w4.setCell ⟨B + 1, 0, none⟩ (.bool mr)).setCell ⟨B + 1, 1, none⟩ (.slice mo j mc)) mr mo j mc (x * 2 ^ e) := by
      refine bn_num (nb := nr) (a := x.natAbs * 2 ^ e) ⟨hm4.neg, hm4.sl.only_box b4 (only_set2 _ _ _ _)⟩ HNUM.out ?_
      have h5 := HN.out.neg
      rw [Int.natCast_mul, Int.natCast_pow]
      by_cases hx : x < 0
      · rw [h5, decide_eq_true hx, if_pos rfl, ← Int.neg_mul]
        congr 1
        omega
      · rw [h5, decide_eq_false hx, if_neg (by decide)]
        congr 1
        omega
    have hB3 := bnext hB2 (by omega) hw3
    have hbl := (hB3.1.trans (hw4.mono hB3.2)).trans ((only_set2 w4 (B + 1) (.bool mr) (.slice mo j mc)).below (Nat.le_succ B))
    have HRES := Lib.hid hres; clear hres
    have HBL := Lib.hid hbl; clear hbl
    go_wp2
    refine bodyPost_ret (v := .agg #[.bool mr, .slice mo j mc]) (by simp [results, Tryz.results87, go_sem, z0, z1]) rfl ⟨_, mo, j, mc, rfl, HRES.out, by have := HLL.out; omega, ?_⟩
    show Below _ _ _
    rw [HBe.out]; exact HBL.out
end Go.Proofs.YtapcecjbmcoliaaGreatDoor
