import Derived.Test.YtecaaklbhhjcjaaGreatDoorDividesU16
import Derived.Test.YtecaaklbhhjcjaaGreatDoorDividesU17
namespace Go.Proofs.YtecaaklbhhjcjaaGreatDoor
open Go.RowKit

set_option maxRecDepth 100000 in
set_option maxHeartbeats 4000000 in
theorem euclid_any (X Y : Nat) (ao bo : Option Addr) (n m ca cb : Nat) (w : World) (hX : Sl w ao n ca (limbs X)) (hY : Sl w bo m cb (limbs Y)) (hYX : Y ≤ X) (hm : 2 < m) (hn : n ≤ 100000000) :
    Calls Tryz.prog 136 #[.slice ao n ca, .slice bo m cb] w fun r w' => ∃ a b c d u v u0 v0, r = .returned (.agg #[.int .i64 a, .int .i64 b, .int .i64 c, .int .i64 d]) ∧ Leh (X : Int) Y u0 v0 a b c d u v ∧ Below w.heap.size w w' := by
  have hX2 : 4294967296 ^ 2 ≤ Y := by
    rcases Nat.lt_or_ge Y (4294967296 ^ 2) with h | h
    · have := (limbs_len_le Y 2).2 h
      rw [hY.len] at this
      omega
    · exact h
  obtain ⟨l, hbl, hl1, hl2⟩ := blen_spec (a := X) (by have : 0 < 4294967296 ^ 2 := by decide
                                                      omega)
  have hb64 : 63 < l := by
    rcases Nat.lt_or_ge 63 l with h | h
    · exact h
    · have h3 := Nat.pow_le_pow_right (show 0 < 2 by omega) (show l + 1 ≤ 64 by omega)
      omega
  have hbn : l < 32 * n := by
    have h1 := (limbs_len_le X n).1 (by rw [hX.len]; exact Nat.le_refl _)
    have h2 : 4294967296 ^ n = 2 ^ (32 * n) := by rw [Nat.pow_mul]
    rw [h2] at h1
    exact (Nat.pow_lt_pow_iff_right (by omega)).1 (Nat.lt_of_le_of_lt hl1 h1)
  obtain ⟨e, he⟩ : ∃ e : Nat, blen X = e + 62 := ⟨blen X - 62, by omega⟩
  have heI : (blen X : Int) - 62 = (e : Int) := by omega
  have hpe : 0 < 2 ^ e := Nat.pow_pos (by omega)
  have hu62 : X / 2 ^ e < 4611686018427387904 := by
    rw [Nat.div_lt_iff_lt_mul hpe]
    have h1 : X < 2 ^ (e + 62) := by rw [← he, hbl]; exact hl2
    rw [Nat.pow_add, Nat.mul_comm] at h1
    exact h1
  have hvu : Y / 2 ^ e ≤ X / 2 ^ e := Nat.div_le_div_right hYX
  have hXe : (X : Int) = ((X / 2 ^ e : Nat) : Int) * ((2 ^ e : Nat) : Int) + ((X % 2 ^ e : Nat) : Int) := by
    rw [← Int.natCast_mul, ← Int.natCast_add, Nat.mul_comm, Nat.div_add_mod]
  have hYe : (Y : Int) = ((Y / 2 ^ e : Nat) : Int) * ((2 ^ e : Nat) : Int) + ((Y % 2 ^ e : Nat) : Int) := by
    rw [← Int.natCast_mul, ← Int.natCast_add, Nat.mul_comm, Nat.div_add_mod]
  have hxm := Nat.mod_lt X hpe
  have hym := Nat.mod_lt Y hpe
  have CB := Lib.hid (fun W h => bitLen_any X ao n ca W h (by omega))
  have he9 : e ≤ 30000000000 := by omega
  obtain ⟨BL, hBL⟩ : ∃ v : Int, (blen X : Int) = v := ⟨_, rfl⟩
  rw [hBL] at CB heI
  have hBL1 : BL ≤ 30000000000 := by omega
  have hBL0 : 0 ≤ BL := by omega
  have CX := Lib.hid (fun W h => bitsN_any X e ao n ca W h (by omega) (by omega))
  have CY := Lib.hid (fun W h => bitsN_any Y e bo m cb W h (by omega) (by omega))
  have hst : Leh (X : Int) Y ((X / 2 ^ e : Nat) : Int) ((Y / 2 ^ e : Nat) : Int) 1 0 0 1 ((X / 2 ^ e : Nat) : Int) ((Y / 2 ^ e : Nat) : Int) := Leh.start (Int.natCast_nonneg _) (Int.ofNat_le.2 hYX) (Int.natCast_nonneg _) (Int.ofNat_le.2 hvu)
  have hv00 : (0 : Int) ≤ ((Y / 2 ^ e : Nat) : Int) := Int.natCast_nonneg _
  have hvb : ((Y / 2 ^ e : Nat) : Int) ≤ ((X / 2 ^ e : Nat) : Int) := Int.ofNat_le.2 hvu
  have hub : ((X / 2 ^ e : Nat) : Int) < 4611686018427387904 := Int.ofNat_lt.2 hu62
  obtain ⟨u0, hu0⟩ : ∃ v : Int, ((X / 2 ^ e : Nat) : Int) = v := ⟨_, rfl⟩
  obtain ⟨v0, hv0⟩ : ∃ v : Int, ((Y / 2 ^ e : Nat) : Int) = v := ⟨_, rfl⟩
  rw [hu0] at hXe CX hub
  rw [hv0] at hYe CY hv00
  rw [hu0, hv0] at hst hvb
  have STEP : Hid (∀ (a b c d u v q : Int), Leh (X : Int) Y u0 v0 a b c d u v → 0 < v + c → 0 < v + d → (u + a) / (v + c) = q → (u + b) / (v + d) = q → _) := Lib.hid (fun a b c d u v q h h1 h2 hq hq' =>
    h.step (R := ((2 ^ e : Nat) : Int)) (x := ((X % 2 ^ e : Nat) : Int)) (y := ((Y % 2 ^ e : Nat) : Int)) (Int.ofNat_lt.2 hpe) hXe hYe ⟨Int.natCast_nonneg _, Int.ofNat_lt.2 hxm⟩ ⟨Int.natCast_nonneg _, Int.ofNat_lt.2 hym⟩ hub hvb h1 h2 hq hq')
  have HST := Lib.hid hst
  clear hXe hYe hxm hym hu0 hv0 hst hu62 hvu hX2 hpe hYX hl1 hl2 hb64 hbn hbl hBL he
  go_enter Tryz.func136, Tryz.ntmps136
  go_upto_region 1 with fail
  obtain ⟨W, hW, hB, hres, hsz⟩ := cof_new w 0 0 0 0
  rw [← hW]
  clear hW
  have hXW := hX.below hB
  have hYW := hY.below hB
  have HEB := Lib.hid heI
  generalize hBe : w.heap.size = B at *
  have HBe := Lib.hid hBe
  clear hBe
  go_wp2_with fail
  refine (CB.out _ hXW).mono ?_
  rintro r w1 ⟨rfl, rfl⟩
  go_wp2_with fail
  refine (CX.out _ hXW).mono ?_
  rintro r w2 ⟨rfl, hE2⟩
  have hYW := hYW.below hE2
  have hres := hres.below hE2
  have hB2 := hB.trans (hE2.mono (by omega))
  have hs2 := Below.size hE2
  go_wp2_with fail
  refine (CY.out _ hYW).mono ?_
  rintro r w3 ⟨rfl, hE3⟩
  have hres := hres.below hE3
  have hB3 := hB2.trans (hE3.mono (by omega))
  have hs3 := Below.size hE3
  have HB3 := Lib.hid hB3
  clear hE2 hE3 hB2 hB3 hB hXW hYW CB CX CY hX hY heI
  have h30 : w3.heap.size ≠ B := by omega
  have hGB : B ≤ w3.heap.size := by omega
  have hn3 := Cof.new w3 1 0 0 1
  have hb3 := (Below.refl w3.heap.size w3).alloc (Nat.le_refl _) (.cells #[.int .i64 1, .int .i64 0, .int .i64 0, .int .i64 1] 118)
  have hres3 := hres.below hb3
  have hBs3 := Lib.hid (HB3.out.trans (hb3.mono (by omega)))
  clear hres hb3
  go_wp2
  go_loopw [6, 7, 9] (fun u v _ wr => ∃ a b c d uu vv : Int, u = .int .i64 uu ∧ v = .int .i64 vv ∧ Leh (X : Int) Y u0 v0 a b c d uu vv ∧ Cof wr w3.heap.size a b c d ∧ Cof wr B 0 0 0 0 ∧ Below B w wr)
    (fun _ v _ _ => (intOf v).toNat)
  case atStart => exact ⟨1, 0, 0, 1, u0, v0, rfl, rfl, HST.out, hn3, hres3, hBs3.out⟩
  case round =>
    clear hn3 hres3
    obtain ⟨a, b, c, d, uu, vv, rfl, rfl, hL, hf, hr, hB⟩ := hrel
    obtain ⟨a0, a1⟩ := hL.ba
    obtain ⟨b0, b1⟩ := hL.bb
    obtain ⟨c0, c1⟩ := hL.bc
    obtain ⟨d0, d1⟩ := hL.bd
    have x1 := hL.v0
    have x2 := hL.vu
    have x3 := hL.ul
    have x4 := hL.ua
    have x5 := hL.ub
    have q0 := hf.c0
    have q1 := hf.c1
    have q2 := hf.c2
    have q3 := hf.c3
    have HL := Lib.hid hL
    have HF := Lib.hid hf
    have HR := Lib.hid hr
    have HBB := Lib.hid hB
    clear hL hf hr hB
    generalize w3.heap.size = G at *
    by_cases h1 : 0 < vv + c
    · by_cases h2 : 0 < vv + d
      · have ne1 : vv + c ≠ 0 := by omega
        have ne2 : vv + d ≠ 0 := by omega
        obtain ⟨q, hq⟩ : ∃ q, (uu + a) / (vv + c) = q := ⟨_, rfl⟩
        obtain ⟨q2, hq2⟩ : ∃ q, (uu + b) / (vv + d) = q := ⟨_, rfl⟩
        by_cases he : q = q2
        · subst he
          obtain ⟨L2, ⟨s1, s2⟩, ⟨s3, s4⟩, s5, s6, s7, s8, s9⟩ := STEP.out a b c d uu vv q HL.out h1 h2 hq hq2
          obtain ⟨qc, hqc⟩ : ∃ v, q * c = v := ⟨_, rfl⟩
          obtain ⟨qd, hqd⟩ : ∃ v, q * d = v := ⟨_, rfl⟩
          obtain ⟨qv, hqv⟩ : ∃ v, q * vv = v := ⟨_, rfl⟩
          rw [hqc, hqd, hqv] at L2
          rw [hqc] at s1 s2
          rw [hqd] at s3 s4
          rw [hqv] at s5 s6 s7
          have w1 : IntKind.i64.wrap (q * c) = qc := by rw [hqc]; exact IntWalk.i64_in _ ⟨by omega, by omega⟩
          have w2 : IntKind.i64.wrap (q * d) = qd := by rw [hqd]; exact IntWalk.i64_in _ ⟨by omega, by omega⟩
          have w3 : IntKind.i64.wrap (q * vv) = qv := by rw [hqv]; exact IntWalk.i64_in _ ⟨by omega, by omega⟩
          have HL2 := Lib.hid L2
          have f0 := HF.out.f 0
          have f1 := HF.out.f 1
          have f2 := HF.out.f 2
          have f3 := HF.out.f 3
          have hqq : (q != q) = false := by simp
          clear hqc hqd hqv L2
          go_wp2
          go_roundw
          case rel => exact ⟨c, d, a - qc, b - qd, vv, uu - qv, rfl, rfl, HL2.out, HF.out.stored _ _ _ _, HR.out.only (only_cset4 _ _ _ _ _ _) (Ne.symm h30), HBB.out.trans ((only_cset4 wr G _ _ _ _).below hGB)⟩
          case measure => simp [intOf] <;> omega
        · have hqn : (q != q2) = true := by simp [he]
          have r0 := HR.out.c0
          have r1 := HR.out.c1
          have r2 := HR.out.c2
          have r3 := HR.out.c3
          have g0 := HR.out.f 0
          have g1 := HR.out.f 1
          have g2 := HR.out.f 2
          have g3 := HR.out.f 3
          have hst := HR.out.stored a b c d
          have z0 := hst.c0
          have z1 := hst.c1
          have z2 := hst.c2
          have z3 := hst.c3
          clear hst
          have HE := Lib.hid (HBB.out.trans ((only_cset4 wr B (.int .i64 a) (.int .i64 b) (.int .i64 c) (.int .i64 d)).below (Nat.le_refl _)))
          go_wp2
          refine bodyPost_ret (v := .agg #[.int .i64 a, .int .i64 b, .int .i64 c, .int .i64 d]) (by simp [results, Tryz.results136, go_sem, z0, z1, z2, z3]) rfl ?_
          first
            | exact ⟨a, b, c, d, rfl, ⟨uu, vv, u0, v0, HL.out⟩, by show Below _ _ _; rw [HBe.out]; exact HE.out⟩
            | exact ⟨a, b, c, d, uu, vv, u0, v0, rfl, HL.out, by show Below _ _ _; rw [HBe.out]; exact HE.out⟩
      · have h2' : ¬ vv + d > 0 := h2
        have r0 := HR.out.c0
        have r1 := HR.out.c1
        have r2 := HR.out.c2
        have r3 := HR.out.c3
        have g0 := HR.out.f 0
        have g1 := HR.out.f 1
        have g2 := HR.out.f 2
        have g3 := HR.out.f 3
        have hst := HR.out.stored a b c d
        have z0 := hst.c0
        have z1 := hst.c1
        have z2 := hst.c2
        have z3 := hst.c3
        clear hst
        have HE := Lib.hid (HBB.out.trans ((only_cset4 wr B (.int .i64 a) (.int .i64 b) (.int .i64 c) (.int .i64 d)).below (Nat.le_refl _)))
        go_wp2
        refine bodyPost_ret (v := .agg #[.int .i64 a, .int .i64 b, .int .i64 c, .int .i64 d]) (by simp [results, Tryz.results136, go_sem, z0, z1, z2, z3]) rfl ?_
        first
          | exact ⟨a, b, c, d, rfl, ⟨uu, vv, u0, v0, HL.out⟩, by show Below _ _ _; rw [HBe.out]; exact HE.out⟩
          | exact ⟨a, b, c, d, uu, vv, u0, v0, rfl, HL.out, by show Below _ _ _; rw [HBe.out]; exact HE.out⟩
    · have h1' : ¬ vv + c > 0 := h1
      have r0 := HR.out.c0
      have r1 := HR.out.c1
      have r2 := HR.out.c2
      have r3 := HR.out.c3
      have g0 := HR.out.f 0
      have g1 := HR.out.f 1
      have g2 := HR.out.f 2
      have g3 := HR.out.f 3
      have hst := HR.out.stored a b c d
      have z0 := hst.c0
      have z1 := hst.c1
      have z2 := hst.c2
      have z3 := hst.c3
      clear hst
      have HE := Lib.hid (HBB.out.trans ((only_cset4 wr B (.int .i64 a) (.int .i64 b) (.int .i64 c) (.int .i64 d)).below (Nat.le_refl _)))
      go_wp2
      refine bodyPost_ret (v := .agg #[.int .i64 a, .int .i64 b, .int .i64 c, .int .i64 d]) (by simp [results, Tryz.results136, go_sem, z0, z1, z2, z3]) rfl ?_
      first
        | exact ⟨a, b, c, d, rfl, ⟨uu, vv, u0, v0, HL.out⟩, by show Below _ _ _; rw [HBe.out]; exact HE.out⟩
        | exact ⟨a, b, c, d, uu, vv, u0, v0, rfl, HL.out, by show Below _ _ _; rw [HBe.out]; exact HE.out⟩
end Go.Proofs.YtecaaklbhhjcjaaGreatDoor
