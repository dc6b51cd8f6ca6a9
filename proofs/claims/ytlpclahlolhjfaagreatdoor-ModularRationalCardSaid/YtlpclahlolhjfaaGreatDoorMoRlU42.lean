import Derived.Test.YtlpclahlolhjfaaGreatDoorMoRlU41
import Derived.Test.YtlpclahlolhjfaaGreatDoorMoRlU16
import Derived.Test.YtlpclahlolhjfaaGreatDoorMoRlU18
import Derived.Test.YtlpclahlolhjfaaGreatDoorMoRlU1
import Derived.Test.YtlpclahlolhjfaaGreatDoorProg
namespace Go.Proofs.YtlpclahlolhjfaaGreatDoor
open Go.RowKit

set_option maxRecDepth 100000 in
set_option maxHeartbeats 4000000 in
theorem euclid_any (X Y : Nat) (ao bo : Option Addr) (n m ca cb : Nat) (w : World) (hX : Sl w ao n ca (limbs X)) (hY : Sl w bo m cb (limbs Y)) (hYX : Y ≤ X) (hm : 2 < m) (hn : n ≤ 100000000) :
    Calls Tryz.prog 117 #[.slice ao n ca, .slice bo m cb] w fun r w' => ∃ a b c d u v u0 v0, r = .returned (.agg #[.int .i64 a, .int .i64 b, .int .i64 c, .int .i64 d]) ∧ Leh (X : Int) Y u0 v0 a b c d u v ∧ Below w.heap.size w w' := by
  have hX2 : 4294967296 ^ 2 ≤ Y := by
    rcases Nat.lt_or_ge Y (4294967296 ^ 2) with h | h
    · have := (limbs_len_le Y 2).2 h
      rw [hY.len] at this
      omega
    · exact h
  obtain ⟨l, hbl, hl1, hl2⟩ := blen_spec (a := X) (by have : 0 < 4294967296 ^ 2 := by decide
                                                      omega)
  have hb64 : 63 < l := by
    rcases Nat.lt_or_ge 63 l with h | h
    · exact h
    · have h3 := Nat.pow_le_pow_right (show 0 < 2 by omega) (show l + 1 ≤ 64 by omega)
      omega
  have hbn : l < 32 * n := by
    have h1 := (limbs_len_le X n).1 (by rw [hX.len]; exact Nat.le_refl _)
    have h2 : 4294967296 ^ n = 2 ^ (32 * n) := by rw [Nat.pow_mul]
    rw [h2] at h1
    exact (Nat.pow_lt_pow_iff_right (by omega)).1 (Nat.lt_of_le_of_lt hl1 h1)
  obtain ⟨e, he⟩ : ∃ e : Nat, blen X = e + 62 := ⟨blen X - 62, by omega⟩
  have heI : (blen X : Int) - 62 = (e : Int) := by omega
  have hpe : 0 < 2 ^ e := Nat.pow_pos (by omega)
  have hu62 : X / 2 ^ e < 4611686018427387904 := by
    rw [Nat.div_lt_iff_lt_mul hpe]
    have h1 : X < 2 ^ (e + 62) := by rw [← he, hbl]; exact hl2
    rw [Nat.pow_add, Nat.mul_comm] at h1
    exact h1
  have hvu : Y / 2 ^ e ≤ X / 2 ^ e := Nat.div_le_div_right hYX
  have hXe : (X : Int) = ((X / 2 ^ e : Nat) : Int) * ((2 ^ e : Nat) : Int) + ((X % 2 ^ e : Nat) : Int) := by
    rw [← Int.natCast_mul, ← Int.natCast_add, Nat.mul_comm, Nat.div_add_mod]
  have hYe : (Y : Int) = ((Y / 2 ^ e : Nat) : Int) * ((2 ^ e : Nat) : Int) + ((Y % 2 ^ e : Nat) : Int) := by
    rw [← Int.natCast_mul, ← Int.natCast_add, Nat.mul_comm, Nat.div_add_mod]
  have hxm := Nat.mod_lt X hpe
  have hym := Nat.mod_lt Y hpe
  have CB := Lib.hid (fun W h => bitLen_any X ao n ca W h (by omega))
  have he9 : e ≤ 30000000000 := by omega
  obtain ⟨BL, hBL⟩ : ∃ v : Int, (blen X : Int) = v := ⟨_, rfl⟩
  rw [hBL] at CB heI
  have hBL1 : BL ≤ 30000000000 := by omega
  have hBL0 : 0 ≤ BL := by omega
  have CX := Lib.hid (fun W h => bitsN_any X e ao n ca W h (by omega) (by omega))
  have CY := Lib.hid (fun W h => bitsN_any Y e bo m cb W h (by omega) (by omega))
  have hst : Leh (X : Int) Y ((X / 2 ^ e : Nat) : Int) ((Y / 2 ^ e : Nat) : Int) 1 0 0 1 ((X / 2 ^ e : Nat) : Int) ((Y / 2 ^ e : Nat) : Int) := Leh.start (Int.natCast_nonneg _) (Int.ofNat_le.2 hYX) (Int.natCast_nonneg _) (Int.ofNat_le.2 hvu)
  have hv00 : (0 : Int) ≤ ((Y / 2 ^ e : Nat) : Int) := Int.natCast_nonneg _
  have hvb : ((Y / 2 ^ e : Nat) : Int) ≤ ((X / 2 ^ e : Nat) : Int) := Int.ofNat_le.2 hvu
  have hub : ((X / 2 ^ e : Nat) : Int) < 4611686018427387904 := Int.ofNat_lt.2 hu62
  obtain ⟨u0, hu0⟩ : ∃ v : Int, ((X / 2 ^ e : Nat) : Int) = v := ⟨_, rfl⟩
  obtain ⟨v0, hv0⟩ : ∃ v : Int, ((Y / 2 ^ e : Nat) : Int) = v := ⟨_, rfl⟩
  rw [hu0] at hXe CX hub
  rw [hv0] at hYe CY hv00
  rw [hu0, hv0] at hst hvb
  have STEP : Hid (∀ (a b c d u v q : Int), Leh (X : Int) Y u0 v0 a b c d u v → 0 < v + c → 0 < v + d → (u + a) / (v + c) = q → (u + b) / (v + d) = q → _) := Lib.hid (fun a b c d u v q h h1 h2 hq hq' =>
    h.step (R := ((2 ^ e : Nat) : Int)) (x := ((X % 2 ^ e : Nat) : Int)) (y := ((Y % 2 ^ e : Nat) : Int)) (Int.ofNat_lt.2 hpe) hXe hYe ⟨Int.natCast_nonneg _, Int.ofNat_lt.2 hxm⟩ ⟨Int.natCast_nonneg _, Int.ofNat_lt.2 hym⟩ hub hvb h1 h2 hq hq')
  have HST := Lib.hid hst
  clear hXe hYe hxm hym hu0 hv0 hst hu62 hvu hX2 hpe hYX hl1 hl2 hb64 hbn hbl hBL he
  go_enter Tryz.func117, Tryz.ntmps117
  go_upto_region 1 with fail
  obtain ⟨W, hW, hB, hres, hsz⟩ := cof_new w 0 0 0 0
  rw [← hW]
  clear hW
  have hXW := hX.below hB
  have hYW := hY.below hB
  have HEB := Lib.hid heI
  generalize hBe : w.heap.size = B at *
  have HBe := Lib.hid hBe
  clear hBe
  go_wp2_with fail
  refine (CB.out _ hXW).mono ?_
  rintro r w1 ⟨rfl, rfl⟩
  go_wp2_with fail
  refine (CX.out _ hXW).mono ?_
  rintro r w2 ⟨rfl, hE2⟩
  have hYW := hYW.below hE2
  have hres := hres.below hE2
  have hB2 := hB.trans (hE2.mono (by omega))
  have hs2 := Below.size hE2
  go_wp2_with fail
  refine (CY.out _ hYW).mono ?_
  rintro r w3 ⟨rfl, hE3⟩
  have hres := hres.below hE3
  have hB3 := hB2.trans (hE3.mono (by omega))
  have hs3 := Below.size hE3
  have HB3 := Lib.hid hB3
  clear hE2 hE3 hB2 hB3 hB hXW hYW CB CX CY hX hY heI
  have h30 : w3.heap.size ≠ B := by omega
  have hGB : B ≤ w3.heap.size := by omega
  have hn3 := Cof.new w3 1 0 0 1
  have hb3 := (Below.refl w3.heap.size w3).alloc (Nat.le_refl _) (.cells #[.int .i64 1, .int .i64 0, .int .i64 0, .int .i64 1] 119)
  have hres3 := hres.below hb3
  have hBs3 := Lib.hid (HB3.out.trans (hb3.mono (by omega)))
  clear hres hb3
  go_wp2
  go_loopw [6, 7, 9] (fun u v _ wr => ∃ a b c d uu vv : Int, u = .int .i64 uu ∧ v = .int .i64 vv ∧ Leh (X : Int) Y u0 v0 a b c d uu vv ∧ Cof wr w3.heap.size a b c d ∧ Cof wr B 0 0 0 0 ∧ Below B w wr)
    (fun _ v _ _ => (intOf v).toNat)
  case atStart => exact ⟨1, 0, 0, 1, u0, v0, rfl, rfl, HST.out, hn3, hres3, hBs3.out⟩
  case round =>
    clear hn3 hres3
    obtain ⟨a, b, c, d, uu, vv, rfl, rfl, hL, hf, hr, hB⟩ := hrel
    obtain ⟨a0, a1⟩ := hL.ba
    obtain ⟨b0, b1⟩ := hL.bb
    obtain ⟨c0, c1⟩ := hL.bc
    obtain ⟨d0, d1⟩ := hL.bd
    have x1 := hL.v0
    have x2 := hL.vu
    have x3 := hL.ul
    have x4 := hL.ua
    have x5 := hL.ub
    have q0 := hf.c0
    have q1 := hf.c1
    have q2 := hf.c2
    have q3 := hf.c3
    have HL := Lib.hid hL
    have HF := Lib.hid hf
    have HR := Lib.hid hr
    have HBB := Lib.hid hB
    clear hL hf hr hB
    generalize w3.heap.size = G at *
    by_cases h1 : 0 < vv + c
    · by_cases h2 : 0 < vv + d
      · have ne1 : vv + c ≠ 0 := by omega
        have ne2 : vv + d ≠ 0 := by omega
        obtain ⟨q, hq⟩ : ∃ q, (uu + a) / (vv + c) = q := ⟨_, rfl⟩
        obtain ⟨q2, hq2⟩ : ∃ q, (uu + b) / (vv + d) = q := ⟨_, rfl⟩
        by_cases he : q = q2
        · subst he
          obtain ⟨L2, ⟨s1, s2⟩, ⟨s3, s4⟩, s5, s6, s7, s8, s9⟩ := STEP.out a b c d uu vv q HL.out h1 h2 hq hq2
          obtain ⟨qc, hqc⟩ : ∃ v, q * c = v := ⟨_, rfl⟩
          obtain ⟨qd, hqd⟩ : ∃ v, q * d = v := ⟨_, rfl⟩
          obtain ⟨qv, hqv⟩ : ∃ v, q * vv = v := ⟨_, rfl⟩
          rw [hqc, hqd, hqv] at L2
          rw [hqc] at s1 s2
          rw [hqd] at s3 s4
          rw [hqv] at s5 s6 s7
          have w1 : IntKind.i64.wrap (q * c) = qc := by rw [hqc]; exact IntWalk.i64_in _ ⟨by omega, by omega⟩
          have w2 : IntKind.i64.wrap (q * d) = qd := by rw [hqd]; exact IntWalk.i64_in _ ⟨by omega, by omega⟩
          have w3 : IntKind.i64.wrap (q * vv) = qv := by rw [hqv]; exact IntWalk.i64_in _ ⟨by omega, by omega⟩
          have HL2 := Lib.hid L2
          have f0 := HF.out.f 0
          have f1 := HF.out.f 1
          have f2 := HF.out.f 2
          have f3 := HF.out.f 3
          have hqq : (q != q) = false := by simp
          clear hqc hqd hqv L2
          go_wp2
          go_roundw
          case rel => exact ⟨c, d, a - qc, b - qd, vv, uu - qv, rfl, rfl, HL2.out, HF.out.stored _ _ _ _, HR.out.only (only_cset4 _ _ _ _ _ _) (Ne.symm h30), HBB.out.trans ((only_cset4 wr G _ _ _ _).below hGB)⟩
          case measure => simp [intOf] <;> omega
        · have hqn : (q != q2) = true := by simp [he]
          have r0 := HR.out.c0
          have r1 := HR.out.c1
          have r2 := HR.out.c2
          have r3 := HR.out.c3
          have g0 := HR.out.f 0
          have g1 := HR.out.f 1
          have g2 := HR.out.f 2
          have g3 := HR.out.f 3
          have hst := HR.out.stored a b c d
          have z0 := hst.c0
          have z1 := hst.c1
          have z2 := hst.c2
          have z3 := hst.c3
          clear hst
          have HE := Lib.hid (HBB.out.trans ((only_cset4 wr B (.int .i64 a) (.int .i64 b) (.int .i64 c) (.int .i64 d)).below (Nat.le_refl _)))
          go_wp2
          refine bodyPost_ret (v := .agg #[.int .i64 a, .int .i64 b, .int .i64 c, .int .i64 d]) (by simp [results, Tryz.results117, go_sem, z0, z1, z2, z3]) rfl ?_
          first
            | exact ⟨a, b, c, d, rfl, ⟨uu, vv, u0, v0, HL.out⟩, by show Below _ _ _; rw [HBe.out]; exact HE.out⟩
            | exact ⟨a, b, c, d, uu, vv, u0, v0, rfl, HL.out, by show Below _ _ _; rw [HBe.out]; exact HE.out⟩
      · have h2' : ¬ vv + d > 0 := h2
        have r0 := HR.out.c0
        have r1 := HR.out.c1
        have r2 := HR.out.c2
        have r3 := HR.out.c3
        have g0 := HR.out.f 0
        have g1 := HR.out.f 1
        have g2 := HR.out.f 2
        have g3 := HR.out.f 3
        have hst := HR.out.stored a b c d
        have z0 := hst.c0
        have z1 := hst.c1
        have z2 := hst.c2
        have z3 := hst.c3
        clear hst
        have HE := Lib.hid (HBB.out.trans ((only_cset4 wr B (.int .i64 a) (.int .i64 b) (.int .i64 c) (.int .i64 d)).below (Nat.le_refl _)))
        go_wp2
        refine bodyPost_ret (v := .agg #[.int .i64 a, .int .i64 b, .int .i64 c, .int .i64 d]) (by simp [results, Tryz.results117, go_sem, z0, z1, z2, z3]) rfl ?_
        first
          | exact ⟨a, b, c, d, rfl, ⟨uu, vv, u0, v0, HL.out⟩, by show Below _ _ _; rw [HBe.out]; exact HE.out⟩
          | exact ⟨a, b, c, d, uu, vv, u0, v0, rfl, HL.out, by show Below _ _ _; rw [HBe.out]; exact HE.out⟩
    · have h1' : ¬ vv + c > 0 := h1
      have r0 := HR.out.c0
      have r1 := HR.out.c1
      have r2 := HR.out.c2
      have r3 := HR.out.c3
      have g0 := HR.out.f 0
      have g1 := HR.out.f 1
      have g2 := HR.out.f 2
      have g3 := HR.out.f 3
      have hst := HR.out.stored a b c d
      have z0 := hst.c0
      have z1 := hst.c1
      have z2 := hst.c2
      have z3 := hst.c3
      clear hst
      have HE := Lib.hid (HBB.out.trans ((only_cset4 wr B (.int .i64 a) (.int .i64 b) (.int .i64 c) (.int .i64 d)).below (Nat.le_refl _)))
      go_wp2
      refine bodyPost_ret (v := .agg #[.int .i64 a, .int .i64 b, .int .i64 c, .int .i64 d]) (by simp [results, Tryz.results117, go_sem, z0, z1, z2, z3]) rfl ?_
      first
        | exact ⟨a, b, c, d, rfl, ⟨uu, vv, u0, v0, HL.out⟩, by show Below _ _ _; rw [HBe.out]; exact HE.out⟩
        | exact ⟨a, b, c, d, uu, vv, u0, v0, rfl, HL.out, by show Below _ _ _; rw [HBe.out]; exact HE.out⟩
end Go.Proofs.YtlpclahlolhjfaaGreatDoor

namespace Go.Proofs.YtlpclahlolhjfaaGreatDoor
open Go.RowKit

set_option maxRecDepth 100000 in
set_option maxHeartbeats 4000000 in
theorem apply_any (a b c d : Int) (gx gy nx n cx cy B : Nat) (X Y : List Int) (w : World) (hX : Blk w gx X) (hY : Blk w gy Y) (hne : gx ≠ gy) (wX : Wf X) (wY : Wf Y) (hnx : nx ≤ X.length) (hny : n ≤ Y.length) (hxn : n ≤ nx) (hcx : nx ≤ cx) (hcy : n ≤ cy) (hbig : cx ≤ 1099511627776)
    (p1 : Pair a b) (p2 : Pair c d) (hBx : B ≤ gx) (hBy : B ≤ gy) :
    Calls Tryz.prog 118 #[.agg #[.int .i64 a, .int .i64 b, .int .i64 c, .int .i64 d], .slice (some ⟨gx, 0, none⟩) nx cx, .slice (some ⟨gy, 0, none⟩) n cy] w fun e w' => e = .returned (.tuple #[]) ∧ ∃ X' Y' e1 e2, Comb X Y X a b n X' e1 ∧ Comb X Y Y c d n Y' e2 ∧ Blk w' gx X' ∧ Blk w' gy Y' ∧ Below B w w' := by
  have PA := Lib.hid p1
  have PC := Lib.hid p2
  have ba := p1.2
  have bc := p2.2
  obtain ⟨a0, a1, b0, b1⟩ := ba
  obtain ⟨c0, c1, d0, d1⟩ := bc
  clear p1 p2
  go_enter Tryz.func118, Tryz.ntmps118
  go_upto_region 1 with fail
  obtain ⟨W, hW, hB, hbx, hsz⟩ := cof_new w a b c d
  rw [← hW]
  clear hW
  have hgx : gx < w.heap.size := hX.lt
  have hgy : gy < w.heap.size := hY.lt
  have hX := hX.below hB
  have hY := hY.below hB
  have hWB : Below B W W := Below.refl _ _
  have HBW := Lib.hid (show Below B w W from hB.mono (by omega))
  clear hB
  generalize w.heap.size = G at *
  have hgx' : gx ≠ G := by omega
  have hgy' : gy ≠ G := by omega
  have hne' : gy ≠ gx := fun e => hne e.symm
  have WX := Lib.hid wX
  have WY := Lib.hid wY
  clear wX wY
  have cb : Comb X Y X a b 0 X 0 := Comb.start a b WX.out
  have cd : Comb X Y Y c d 0 Y 0 := Comb.start c d WY.out
  go_wp2
  go_loopw [6, 7, 8, 9, 10, 13] (fun ex ey i p q j wr => ∃ (k : Nat) (Lx Ly : List Int) (e1 e2 : Int), k ≤ n ∧ j = .int .i64 k ∧ ex = .int .i64 e1 ∧ ey = .int .i64 e2 ∧ Comb X Y X a b k Lx e1 ∧ Comb X Y Y c d k Ly e2 ∧ Blk wr gx Lx ∧ Blk wr gy Ly ∧ Cof wr G a b c d ∧ Below B W wr)
    (fun _ _ _ _ _ j _ => n - (intOf j).toNat)
  case atStart => exact ⟨0, X, Y, 0, 0, Nat.zero_le _, rfl, rfl, rfl, cb, cd, hX, hY, hbx, hWB⟩
  case round =>
    obtain ⟨k, Lx, Ly, e1, e2, hk, rfl, rfl, rfl, hA, hC, hbx2, hby2, hbc, ho⟩ := hrel
    clear hX hY hbx hWB cb cd
    have hlx := hA.1
    have hly := hC.1
    have e1a := hA.2.2.2.2.1
    have e1b := hA.2.2.2.2.2
    have e2a := hC.2.2.2.2.1
    have e2b := hC.2.2.2.2.2
    have HA := Lib.hid hA
    have HC := Lib.hid hC
    have HO := Lib.hid ho
    clear hA hC ho
    by_cases hlt : k < n
    · have hxr := WX.out.getD k
      have hyr := WY.out.getD k
      have k1 := hbx2.cell k (by omega)
      have k2 := hby2.cell k (by omega)
      rw [getD_of_drop HA.out.2.2.1] at k1
      rw [getD_of_drop HC.out.2.2.1] at k2
      obtain ⟨x, hx⟩ : ∃ x, X.getD k 0 = x := ⟨_, rfl⟩
      obtain ⟨y, hy⟩ : ∃ y, Y.getD k 0 = y := ⟨_, rfl⟩
      rw [hx] at k1 hxr
      rw [hy] at k2 hyr
      have stA := Lib.hid (fun s (hs : s = e1 + (a * x + b * y)) => HA.out.step PA.out WX.out WY.out (by omega) (by omega) (by omega) s (by rw [hx, hy]; exact hs))
      have stC := Lib.hid (fun s (hs : s = e2 + (c * x + d * y)) => HC.out.step PC.out WX.out WY.out (by omega) (by omega) (by omega) s (by rw [hx, hy]; exact hs))
      obtain ⟨x0, x1⟩ := hxr
      obtain ⟨y0, y1⟩ := hyr
      obtain ⟨r1, r2, r3⟩ := PA.out.range x0 x1 y0 y1
      obtain ⟨r4, r5, r6⟩ := PC.out.range x0 x1 y0 y1
      obtain ⟨ax, hax⟩ : ∃ v, a * x = v := ⟨_, rfl⟩
      obtain ⟨by', hby⟩ : ∃ v, b * y = v := ⟨_, rfl⟩
      obtain ⟨cx', hcx'⟩ : ∃ v, c * x = v := ⟨_, rfl⟩
      obtain ⟨dy, hdy⟩ : ∃ v, d * y = v := ⟨_, rfl⟩
      rw [hax, hby] at stA r3
      rw [hcx', hdy] at stC r6
      rw [hax] at r1
      rw [hby] at r2
      rw [hcx'] at r4
      rw [hdy] at r5
      have w1 : IntKind.i64.wrap (a * x) = ax := by rw [hax]; exact IntWalk.i64_in _ ⟨by omega, by omega⟩
      have w2 : IntKind.i64.wrap (b * y) = by' := by rw [hby]; exact IntWalk.i64_in _ ⟨by omega, by omega⟩
      have w3 : IntKind.i64.wrap (c * x) = cx' := by rw [hcx']; exact IntWalk.i64_in _ ⟨by omega, by omega⟩
      have w4 : IntKind.i64.wrap (d * y) = dy := by rw [hdy]; exact IntWalk.i64_in _ ⟨by omega, by omega⟩
      obtain ⟨r1a, r1b⟩ := r1
      obtain ⟨r2a, r2b⟩ := r2
      obtain ⟨r3a, r3b⟩ := r3
      obtain ⟨r4a, r4b⟩ := r4
      obtain ⟨r5a, r5b⟩ := r5
      obtain ⟨r6a, r6b⟩ := r6
      have HXk := Lib.hid hx
      have HYk := Lib.hid hy
      have HLx := Lib.hid hlx
      have HLy := Lib.hid hly
      clear hax hby hcx' hdy hx hy hlx hly
      have f1 := hbx2.frozen k
      have f2 := hby2.frozen k
      have f3 : ∀ v, (wr.setCell ⟨gx, k, none⟩ v).frozen? ⟨gy, k, none⟩ = false := fun v => (hby2.only ((Only.refl gx wr).setCell k v) hne').frozen k
      have q0 := hbc.c0
      have q1 := hbc.c1
      have q2 := hbc.c2
      have q3 := hbc.c3
      have HBC := Lib.hid hbc
      have HX2 := Lib.hid hbx2
      have HY2 := Lib.hid hby2
      clear hbc hbx2 hby2
      go_wp2
      go_region
      go_wp2
      go_roundw
      case rel =>
        have t1 := HX2.out.set k ((e1 + (ax + by')) % 4294967296)
        have t2 := HY2.out.set k ((e2 + (cx' + dy)) % 4294967296)
        have u1 := (Only.refl gx wr).setCell k (.int .u32 ((e1 + (ax + by')) % 4294967296))
        have u2 := (Only.refl gy (wr.setCell ⟨gx, k, none⟩ (.int .u32 ((e1 + (ax + by')) % 4294967296)))).setCell k (.int .u32 ((e2 + (cx' + dy)) % 4294967296))
        exact ⟨k + 1, _, _, _, _, by omega, by go_num, rfl, rfl, stA.out _ rfl, stC.out _ rfl, Blk.drew (Blk.only t1 u2 hne), Blk.drew ((HY2.out.only u1 hne').set k _), (HBC.out.only u1 (Ne.symm hgx')).only u2.drew (Ne.symm hgy'), (HO.out.trans ((u1.below hBx).trans (u2.below hBy))).drew⟩
      case measure => simp [intOf] <;> omega
    · obtain rfl : k = n := by omega
      go_wp2
      go_end0
      exact ⟨rfl, Lx, Ly, e1, e2, HA.out, HC.out, hbx2, hby2, HBW.out.trans HO.out⟩
end Go.Proofs.YtlpclahlolhjfaaGreatDoor

namespace Go.Proofs.YtlpclahlolhjfaaGreatDoor
open Go.RowKit

set_option maxRecDepth 100000 in
set_option maxHeartbeats 2000000 in
theorem wordGcd_any (a b : Nat) (w : World) (ha : a < 18446744073709551616) (hb : b < 18446744073709551616) :
    Calls Tryz.prog 119 #[.int .u64 (a : Int), .int .u64 (b : Int)] w fun e w' => e = .returned (.int .u64 ((Nat.gcd a b : Nat) : Int)) ∧ Below w.heap.size w w' := by
  obtain ⟨G, hG⟩ : ∃ G : Int, ((Nat.gcd a b : Nat) : Int) = G := ⟨_, rfl⟩
  rw [hG]
  have HG := Lib.hid hG
  clear hG
  go_enter Tryz.func119, Tryz.ntmps119
  go_wp2
  go_loopw [0, 1] (fun x y wr => ∃ p q : Nat, x = .int .u64 (p : Int) ∧ y = .int .u64 (q : Int) ∧ p < 18446744073709551616 ∧ q < 18446744073709551616 ∧ ((Nat.gcd p q : Nat) : Int) = G ∧ Below w.heap.size w wr)
    (fun _ y _ => (intOf y).toNat)
  case atStart => exact ⟨a, b, rfl, rfl, ha, hb, HG.out, Below.refl _ w⟩
  case round =>
    obtain ⟨p, q, rfl, rfl, hp, hq, hg, hE⟩ := hrel
    have HG1 := Lib.hid hg
    have HE := Lib.hid hE
    clear hg hE
    by_cases h0 : q = 0
    · subst h0
      go_wp2
      go_ret
      refine ⟨?_, HE.out⟩
      have := HG1.out
      rw [Nat.gcd_zero_right] at this
      rw [this]; rfl
    · have hq0 : (0 : Int) < q := by omega
      have hqz : ((q : Int) == 0) = false := by apply beq_eq_false_iff_ne.2; omega
      have hm : (p : Int) % (q : Int) = ((p % q : Nat) : Int) := by rw [Int.natCast_emod]
      have hml : p % q < q := Nat.mod_lt _ (by omega)
      obtain ⟨m, hmm⟩ : ∃ m, p % q = m := ⟨_, rfl⟩
      rw [hmm] at hm hml
      have hmg : Nat.gcd q m = Nat.gcd p q := by rw [← hmm, Nat.gcd_comm q, ← Nat.gcd_rec, Nat.gcd_comm]
      have HMG := Lib.hid hmg
      have HM2 := Lib.hid hm
      clear hmg hmm hm
      go_wp2
      go_region
      go_wp2
      go_roundw
      case rel => exact ⟨q, m, rfl, by rw [HM2.out], by omega, by omega, by rw [HMG.out]; exact HG1.out, HE.out.trans ((Below.refl _ _).drew)⟩
      case measure =>
        have := HM2.out
        simp [intOf] <;> omega
end Go.Proofs.YtlpclahlolhjfaaGreatDoor
