import Derived.Test.YtapcecjbmcoliaaGreatDoorACauU38
import Derived.Test.YtapcecjbmcoliaaGreatDoorACauU36
import Derived.LoopTactic
namespace Go.Proofs.YtapcecjbmcoliaaGreatDoor
open Go.RowKit

set_option maxRecDepth 100000 in
set_option maxHeartbeats 1000000 in
theorem refBad_any (w : World) :
    Calls Tryz.prog 82 #[] w fun e w' => e = .returned (.agg #[.bool true, .bool false, .slice none 0 0, .int .i64 0]) ∧ Ext w w' := by
  go_enter Tryz.func82, Tryz.ntmps82
  go_wp2
  exact bodyPost_ret (v := .agg #[.bool true, .bool false, .slice none 0 0, .int .i64 0]) (by simp [results, Tryz.results82, go_sem]) rfl ⟨rfl, ((Below.refl _ _).alloc (Nat.le_refl _) _)⟩

/-- a shift down by any number of bits -/
theorem refShift_dn0 (nb : Bool) (ao : Option Addr) (n cap : Nat) (x : Int) (e : Nat) (w : World) (h : Bg w nb ao n cap x) (h0 : 0 ≤ x) (he : e ≤ 1048576) :
    Calls Tryz.prog 87 #[.agg #[.bool nb, .slice ao n cap], .int .i64 (-(e : Int))] w fun r w' => ∃ nr ro k cr, r = .returned (.agg #[.bool nr, .slice ro k cr]) ∧ Bn w' nr ro k cr (x / 2 ^ e) ∧ Ext w w' := by
  rcases Nat.eq_zero_or_pos e with rfl | he0
  · have := refShift_up nb ao n cap x 0 w h (by omega)
    rw [show (-((0 : Nat) : Int)) = ((0 : Nat) : Int) from rfl]
    exact this.mono fun r w' ⟨nr, ro, k, cr, hr, hb, _, hw⟩ => ⟨nr, ro, k, cr, hr, by simpa using hb, hw⟩
  · exact (refShift_down nb ao n cap x e w h h0 he0 he).mono fun r w' ⟨nr, ro, k, cr, hr, hb, _, hw⟩ => ⟨nr, ro, k, cr, hr, hb, hw⟩

set_option maxRecDepth 100000 in
set_option maxHeartbeats 2000000 in
theorem refDown_any (nb : Bool) (ao : Option Addr) (n cap : Nat) (x : Int) (e : Nat) (w : World) (h : Bg w nb ao n cap x) (h0 : 0 ≤ x) (he : e ≤ 1048576) :
    Calls Tryz.prog 92 #[.agg #[.bool nb, .slice ao n cap], .int .i64 (e : Int)] w fun r w' => ∃ nr ro k cr, r = .returned (.agg #[.bool nr, .slice ro k cr]) ∧ Bn w' nr ro k cr (x / 2 ^ e) ∧ Ext w w' := by
  obtain ⟨ei, hei⟩ : ∃ ei : Int, (e : Int) = ei := ⟨_, rfl⟩
  have hei0 : 0 ≤ ei := by omega
  have hei1 : ei ≤ 1048576 := by omega
  rw [hei]
  have HEI := Lib.hid hei; clear hei
  go_enter Tryz.func92, Tryz.ntmps92
  go_wp2_with fail
  obtain ⟨W, hW, hB, hbx, hrx, hz⟩ := boxes1 w nb ao n cap
  rw [← hW]
  clear hW
  have h1 := h.below hB
  generalize hBe : w.heap.size = B at *
  have HBe := Lib.hid hBe; clear hBe
  go_loopw [1] (fun i wr => i = .int .i64 ei ∧ wr = W) (fun _ _ => 0)
  case atStart => exact ⟨rfl, rfl⟩
  case round =>
    obtain ⟨rfl, rfl⟩ := hrel
    have k0 := hbx.c0
    have k1 := hbx.c1
    have hcall := refShift_dn0 nb ao n cap x e wr h1 h0 (by omega)
    rw [HEI.out] at hcall
    have HC := Lib.hid hcall; clear hcall
    go_wp2_with fail
    refine HC.out.mono ?_
    rintro r w1 ⟨nr, ro, k, rc, rfl, hs1, hw1⟩
    have b1 := hrx.below hw1
    obtain ⟨h1, z1⟩ := bnext hB (by omega) hw1
    clear k0 k1 HC
    have q0 := b1.c0
    have q1 := b1.c1
    have q2 := b1.f 0
    have q3 := b1.f 1
    have hst := b1.stored nr ro k rc
    have u0 := hst.c0
    have u1 := hst.c1
    have hres : Bn ((w1.setCell ⟨B + 1, 0, none⟩ (.bool nr)).setCell ⟨B + 1, 1, none⟩ (.slice ro k rc)) nr ro k rc (x / 2 ^ e) := ⟨hs1.neg, hs1.sl.only_box b1 (only_set2 _ _ _ _)⟩
    have hbl := h1.trans ((only_set2 w1 (B + 1) (.bool nr) (.slice ro k rc)).below (Nat.le_succ B))
    have HRES := Lib.hid hres; clear hres
    go_wp2
    refine bodyPost_ret (v := .agg #[.bool nr, .slice ro k rc]) (by simp [results, Tryz.results92, go_sem, u0, u1]) rfl ⟨_, ro, k, rc, rfl, HRES.out, ?_⟩
    show Below _ _ _
    rw [HBe.out]; exact hbl

/-- the odd part with its sign -/
theorem odd_bn {w : World} {nb mr : Bool} {mo : Option Addr} {j mc : Nat} {x : Int} (h : Bn w mr mo j mc ((x.natAbs : Int) / 2 ^ tzf x.natAbs)) (h0 : x ≠ 0) (hn : nb = decide (x < 0)) : Bn w nb mo j mc (x / 2 ^ tzf x.natAbs) := by
  obtain ⟨m, h1, h2, h3⟩ := odd_part h0
  rw [h3]
  have hp := two_pos (tzf x.natAbs)
  have e : (x.natAbs : Int) / 2 ^ tzf x.natAbs = m.natAbs := by
    have e2 : (x.natAbs : Int) = (m.natAbs : Int) * 2 ^ tzf x.natAbs := by
      conv => lhs; rw [h1]
      rw [natAbs_shift]; push_cast; rfl
    rw [e2, Int.mul_ediv_cancel _ (Int.ne_of_gt hp)]
  rw [e] at h
  refine ⟨?_, by have := h.sl; rwa [Int.natAbs_natCast] at this⟩
  rw [hn, decide_eq_decide]
  constructor
  · intro hx
    rcases Int.lt_or_le m 0 with hm | hm
    · exact hm
    · have := Int.mul_nonneg hm (Int.le_of_lt hp); omega
  · intro hm
    have := Int.mul_neg_of_neg_of_pos hm hp; omega

theorem dmk_far {x f : Int} (h0 : x ≠ 0) (hf : 65536 < f) : dmk x f = none := by
  unfold dmk
  rw [if_neg h0, if_pos (by omega)]

set_option maxRecDepth 100000 in
set_option maxHeartbeats 4000000 in
theorem refMake_any (nb : Bool) (ao : Option Addr) (n ca : Nat) (x f : Int) (w : World) (h : Bg w nb ao n ca x) (hbl : blen x.natAbs ≤ 1000000) (hf0 : -9223372036854775808 ≤ f) (hf1 : f ≤ 9223372036854775807) (hT : Table w) :
    Calls Tryz.prog 61 #[.agg #[.bool nb, .slice ao n ca], .int .i64 f] w fun e w' => ∃ v, e = .returned v ∧ Dn w' v (dmk x f) ∧ Ext w w' := by
  have hsm := h.small
  have hnb : x ≠ 0 → nb = decide (x < 0) := by
    intro h0
    obtain ⟨⟨zs, hs, hx⟩, _⟩ := h
    have hn := num_nonneg hs.wf
    unfold sgd at hx
    cases nb <;> simp at hx <;> simp <;> omega
  have HNB := Lib.hid hnb; clear hnb
  go_enter Tryz.func61, Tryz.ntmps61
  go_upto_region 1 with fail
  obtain ⟨W, hW, hB, hbx, hrx, hz⟩ := boxes_bd w nb ao n ca
  rw [← hW]
  clear hW
  have h := h.below hB
  have HT := Lib.hid (hT.below hB)
  generalize hBe : w.heap.size = B at *
  have HBe := Lib.hid hBe; clear hBe hT
  have k0 := hbx.c0
  have k1 := hbx.c1
  go_wp2_with fail
  refine (refNorm_any nb ao n ca x W h).mono ?_
  rintro e w1 ⟨nr, ro, k, rc, rfl, hr, hk, hw1⟩
  have HT := Lib.hid (HT.out.below hw1)
  have b1 := hbx.below hw1
  have c1 := hrx.below hw1
  obtain ⟨hB1, hB1'⟩ := bnext hB (by omega) hw1
  have hw1s := hw1.size
  clear k0 k1 hbx hrx h
  go_upto_region 2 with fail
  obtain ⟨V, hV, hv, e1, hz2⟩ := box_new w1 nr ro k rc
  rw [← hV]
  clear hV
  have HT := Lib.hid (HT.out.below hv)
  have b2 := b1.below hv
  have c2 := c1.below hv
  have hr := hr.below hv
  obtain ⟨hB2, hB2'⟩ := bnext hB1 (by omega) hv
  have hD : B + 2 ≤ w1.heap.size := by omega
  clear hw1 hv b1 c1 hw1s hz
  generalize w1.heap.size = D at *
  have k0 := e1.c0
  have k1 := e1.c1
  have hz0 := len_zero_iff hr.sl.len
  have HBL := Lib.hid hbl
  by_cases hk0 : k = 0
  · have hx0 : x = 0 := by have := hz0.1 hk0; omega
    have HX := Lib.hid hx0; clear hx0 hz0 hbl
    subst hk0
    have q0 := c2.c0
    have q1 := c2.c1
    have q2 := c2.c2
    have q3 := c2.c3
    have f0 := c2.f 0
    have f1 := c2.f 1
    have f2 := c2.f 2
    have f3 := c2.f 3
    have hres := dn_stored c2 (dn_zero _) w hB2 (Nat.le_succ B)
    have z3 := c2.stored false false none 0 0 0
    have z0 := z3.c0
    have z1 := z3.c1
    have z2 := z3.c2
    have z4 := z3.c3
    have HRES := Lib.hid hres; clear hres z3
    go_wp2
    refine bodyPost_ret (v := .agg #[.bool false, .bool false, .slice none 0 0, .int .i64 0]) (by simp [results, Tryz.results61, go_sem, z0, z1, z2, z4]) rfl ⟨_, rfl, ?_, ?_⟩
    · rw [HX.out, dmk_zero]; exact HRES.out.1
    · show Below _ _ _; rw [HBe.out]; exact HRES.out.2
  · have hx0 : x ≠ 0 := by intro e; exact hk0 (hz0.2 (by omega))
    have hkb : ((k : Int) == 0) = false := beq_eq_false_iff_ne.2 (by omega)
    have HX := Lib.hid hx0
    clear hz0
    by_cases hf : 65536 < f
    · have hd : dmk x f = none := dmk_far hx0 hf
      have HD := Lib.hid hd; clear hd hx0 hk0 hbl
      go_wp2_with fail
      refine (refBad_any _).mono ?_
      rintro e w3 ⟨rfl, hw3⟩
      have c3 := c2.below hw3
      obtain ⟨hB3, hB3'⟩ := bnext hB2 (by omega) hw3
      clear k0 k1
      have q0 := c3.c0
      have q1 := c3.c1
      have q2 := c3.c2
      have q3 := c3.c3
      have f0 := c3.f 0
      have f1 := c3.f 1
      have f2 := c3.f 2
      have f3 := c3.f 3
      have hres := dn_stored c3 (dn_bad _) w hB3 (Nat.le_succ B)
      have z3 := c3.stored true false none 0 0 0
      have z0 := z3.c0
      have z1 := z3.c1
      have z2 := z3.c2
      have z4 := z3.c3
      have HRES := Lib.hid hres; clear hres z3
      go_wp2
      refine bodyPost_ret (v := .agg #[.bool true, .bool false, .slice none 0 0, .int .i64 0]) (by simp [results, Tryz.results61, go_sem, z0, z1, z2, z4]) rfl ⟨_, rfl, ?_, ?_⟩
      · rw [HD.out]; exact HRES.out.1
      · show Below _ _ _; rw [HBe.out]; exact HRES.out.2
    · obtain ⟨t, ht⟩ : ∃ t, tzf x.natAbs = t := ⟨_, rfl⟩
      obtain ⟨bl, hb⟩ : ∃ bl, blen x.natAbs = bl := ⟨_, rfl⟩
      have htl := tzf_lt (show x.natAbs ≠ 0 by omega)
      have hd0 : dmk x f = if f < -65536 - (t : Int) ∨ 65536 - (bl : Int) < f then none else some (x / 2 ^ t, f + t) := by
        unfold dmk; rw [if_neg hx0, ht, hb]
      have hnd := dmk_nd x f
      rw [ht, hb] at htl
      have hbl2 : bl ≤ 1000000 := by omega
      have HD0 := Lib.hid hd0
      have HND := Lib.hid hnd
      have HB := Lib.hid hb
      have HTZ := Lib.hid ht
      clear hd0 hnd hx0 hk0 hbl hb ht
      have hrg := hr.bg (by omega)
      have hcall := refTz_any _ _ _ _ _ _ hrg HT.out
      rw [HTZ.out] at hcall
      have HC := Lib.hid hcall; clear hcall
      go_wp2_with fail
      refine HC.out.mono ?_
      rintro e w3 ⟨rfl, hw3⟩
      have b3 := b2.below hw3
      have c3 := c2.below hw3
      have e3 := e1.below hw3
      have hr3 := hr.below hw3
      obtain ⟨hB3, hB3'⟩ := bnext hB2 (by omega) hw3
      have hs3 := hw3.size
      have hs3' : D + 1 ≤ w3.heap.size := by omega
      clear k0 k1 HC hw3 hs3 b2 c2 e1 hr hrg
      have k0 := e3.c0
      have k1 := e3.c1
      go_wp2_with fail
      refine (refAbs_any _ _ _ _ _ _ (hr3.bg (by omega))).mono ?_
      rintro e w4 ⟨ar, aor, ak, ac, rfl, ha4, hak, hw4⟩
      have b4 := b3.below hw4
      have c4 := c3.below hw4
      have e4 := e3.below hw4
      obtain ⟨hB4, hB4'⟩ := bnext hB3 (by omega) hw4
      have hs4 := hw4.size
      clear k0 k1 hw4 b3 c3 e3
      have k0 := e4.c0
      have k1 := e4.c1
      have k2 := e4.f 0
      have k3 := e4.f 1
      have ho := only_set2 w4 D (.bool ar) (.slice aor ak ac)
      have e5 := e4.stored ar aor ak ac
      have b5 := b4.only ho (by omega)
      have c5 := c4.only ho (by omega)
      have ha5 : Bn _ ar aor ak ac (x.natAbs : Int) := ⟨ha4.neg, ha4.sl.only_box e4 ho⟩
      have hB5 := hB4.trans (ho.below (B := B) (by omega))
      have hs5 := ho.size
      go_upto_region 9 with fail
      generalize (w4.setCell ⟨D, 0, none⟩ (.bool ar)).setCell ⟨D, 1, none⟩ (.slice aor ak ac) = w5 at *
      clear k0 k1 k2 k3 ho e4 b4 c4 ha4
      have k0 := e5.c0
      have k1 := e5.c1
      have k2 := e5.f 0
      have k3 := e5.f 1
      have hs5' : D + 1 ≤ w5.heap.size := by omega
      clear hs5 hs4
      go_wp2_with fail
      refine (refDown_any _ _ _ _ _ _ _ (ha5.bg (by omega)) (by omega) (by omega)).mono ?_
      rintro e w6 ⟨mr, mo, j, mc, rfl, hm6, hw6⟩
      rw [← HTZ.out] at hm6
      have b6 := b5.below hw6
      have c6 := c5.below hw6
      have e6 := e5.below hw6
      obtain ⟨hB6, hB6'⟩ := bnext hB5 (by omega) hw6
      have hs6 := hw6.size
      clear k0 k1 k2 k3 hw6 b5 c5 e5 ha5
      have k0 := e6.c0
      have k1 := e6.c1
      have k2 := e6.f 0
      have k3 := e6.f 1
      have ho := only_set2 w6 D (.bool mr) (.slice mo j mc)
      have e7 := e6.stored mr mo j mc
      have b7 := b6.only ho (by omega)
      have c7 := c6.only ho (by omega)
      have hm7 : Bn _ mr mo j mc ((x.natAbs : Int) / 2 ^ tzf x.natAbs) := ⟨hm6.neg, hm6.sl.only_box e6 ho⟩
      have hB7 := hB6.trans (ho.below (B := B) (by omega))
      have hs7 := ho.size
      go_upto_region 10 with fail
      generalize (w6.setCell ⟨D, 0, none⟩ (.bool mr)).setCell ⟨D, 1, none⟩ (.slice mo j mc) = w7 at *
      clear k0 k1 k2 k3 ho e6 b6 c6 hm6
      have k0 := e7.c0
      have k1 := e7.c1
      have hs7' : D + 1 ≤ w7.heap.size := by omega
      clear hs7 hs6
      have hodd := odd_bn hm7 HX.out (HNB.out HX.out)
      rw [HTZ.out] at hodd hm7
      have hbm : blen ((x.natAbs : Int) / 2 ^ t).natAbs = bl - t := by
        obtain ⟨m, h1, h2, h3⟩ := odd_part HX.out
        rw [HTZ.out] at h1
        have hp := two_pos t
        have e2 : (x.natAbs : Int) = (m.natAbs : Int) * 2 ^ t := by
          conv => lhs; rw [h1]
          rw [natAbs_shift]; push_cast; rfl
        rw [e2, Int.mul_ediv_cancel _ (Int.ne_of_gt hp), Int.natAbs_natCast]
        have h5 := congrArg Int.natAbs h1
        rw [natAbs_shift] at h5
        have h6 := blen_mul (a := m.natAbs) (by omega) t
        rw [← h5, HB.out] at h6
        omega
      have HBM := Lib.hid hbm; clear hbm
      have HODD := Lib.hid hodd
      have hjs : j ≤ 100000 := by
        have := limbs_of_blen (a := ((x.natAbs : Int) / 2 ^ t).natAbs) (k := 100000) (by rw [HBM.out]; omega)
        rwa [hm7.sl.len] at this
      by_cases hlo : f < -65536 - (t : Int)
      · have hd : dmk x f = none := by rw [HD0.out, if_pos (Or.inl hlo)]
        have HD := Lib.hid hd; clear hd
        go_wp2_with fail
        refine (refBad_any _).mono ?_
        rintro e w8 ⟨rfl, hw8⟩
        have c8 := c7.below hw8
        obtain ⟨hB8, hB8'⟩ := bnext hB7 (by omega) hw8
        clear k0 k1
        have q0 := c8.c0
        have q1 := c8.c1
        have q2 := c8.c2
        have q3 := c8.c3
        have f0 := c8.f 0
        have f1 := c8.f 1
        have f2 := c8.f 2
        have f3 := c8.f 3
        have hres := dn_stored c8 (dn_bad _) w hB8 (Nat.le_succ B)
        have z3 := c8.stored true false none 0 0 0
        have z0 := z3.c0
        have z1 := z3.c1
        have z2 := z3.c2
        have z4 := z3.c3
        have HRES := Lib.hid hres; clear hres z3
        go_wp2
        refine bodyPost_ret (v := .agg #[.bool true, .bool false, .slice none 0 0, .int .i64 0]) (by simp [results, Tryz.results61, go_sem, z0, z1, z2, z4]) rfl ⟨_, rfl, ?_, ?_⟩
        · rw [HD.out]; exact HRES.out.1
        · show Below _ _ _; rw [HBe.out]; exact HRES.out.2
      · have hcall := refBitLen_any _ _ _ _ _ _ (hm7.bg (by omega))
        rw [HBM.out] at hcall
        have HC := Lib.hid hcall; clear hcall
        have hbt : ((bl - t : Nat) : Int) = (bl : Int) - t := by omega
        have HBT := Lib.hid hbt; clear hbt
        go_wp2_with fail
        refine HC.out.mono ?_
        rintro e w8 ⟨rfl, hw8⟩
        rw [HBT.out]
        have b8 := b7.below hw8
        have c8 := c7.below hw8
        have e8 := e7.below hw8
        have hm8 := hodd.below hw8
        obtain ⟨hB8, hB8'⟩ := bnext hB7 (by omega) hw8
        have hs8 := hw8.size
        clear k0 k1 HC hw8 b7 c7 e7 hm7 hodd HODD
        by_cases hhi : 65536 - (bl : Int) < f
        · have hd : dmk x f = none := by rw [HD0.out, if_pos (Or.inr hhi)]
          have HD := Lib.hid hd; clear hd
          have hcmp : (f + (t : Int) + ((bl : Int) - t) > 65536) := by omega
          go_wp2_with fail
          refine (refBad_any _).mono ?_
          rintro e w9 ⟨rfl, hw9⟩
          have c9 := c8.below hw9
          obtain ⟨hB9, hB9'⟩ := bnext hB8 (by omega) hw9
          have q0 := c9.c0
          have q1 := c9.c1
          have q2 := c9.c2
          have q3 := c9.c3
          have f0 := c9.f 0
          have f1 := c9.f 1
          have f2 := c9.f 2
          have f3 := c9.f 3
          have hres := dn_stored c9 (dn_bad _) w hB9 (Nat.le_succ B)
          have z3 := c9.stored true false none 0 0 0
          have z0 := z3.c0
          have z1 := z3.c1
          have z2 := z3.c2
          have z4 := z3.c3
          have HRES := Lib.hid hres; clear hres z3
          go_wp2
          refine bodyPost_ret (v := .agg #[.bool true, .bool false, .slice none 0 0, .int .i64 0]) (by simp [results, Tryz.results61, go_sem, z0, z1, z2, z4]) rfl ⟨_, rfl, ?_, ?_⟩
          · rw [HD.out]; exact HRES.out.1
          · show Below _ _ _; rw [HBe.out]; exact HRES.out.2
        · have hd : dmk x f = some (x / 2 ^ t, f + t) := by rw [HD0.out, if_neg (by omega)]
          have hcmp : ¬ (f + (t : Int) + ((bl : Int) - t) > 65536) := by omega
          have hnd2 := HND.out
          rw [hd] at hnd2
          have HD := Lib.hid hd; clear hd
          have k0 := e8.c0
          have k1 := e8.c1
          have k2 := e8.f 0
          have l0 := b8.c0
          have l1 := b8.c1
          have ho := only_set1 w8 D 0 (.bool nb)
          have e9 := e8.stored0 nb
          have c9 := c8.only ho (by omega)
          have hm9 : Bn _ nb mo j mc (x / 2 ^ t) := ⟨hm8.neg, hm8.sl.only_box e8 ho⟩
          have hB9 := hB8.trans (ho.below (B := B) (by omega))
          have hdn : Dn _ (.agg #[.bool false, .bool nb, .slice mo j mc, .int .i64 (f + t)]) (some (x / 2 ^ t, f + t)) := dn_lit hm9 hnd2
          have HDN := Lib.hid hdn
          clear hdn hnd2 hm9
          go_upto_region 13 with fail
          generalize w8.setCell ⟨D, 0, none⟩ (.bool nb) = w9 at *
          clear k0 k1 k2 l0 l1 ho e8 b8 c8 hm8
          have k0 := e9.c0
          have k1 := e9.c1
          have q0 := c9.c0
          have q1 := c9.c1
          have q2 := c9.c2
          have q3 := c9.c3
          have f0 := c9.f 0
          have f1 := c9.f 1
          have f2 := c9.f 2
          have f3 := c9.f 3
          have hres := dn_stored c9 HDN.out w hB9 (Nat.le_succ B)
          have z3 := c9.stored false nb mo j mc (f + t)
          have z0 := z3.c0
          have z1 := z3.c1
          have z2 := z3.c2
          have z4 := z3.c3
          have HRES := Lib.hid hres; clear hres z3
          go_wp2
          refine bodyPost_ret (v := .agg #[.bool false, .bool nb, .slice mo j mc, .int .i64 (f + t)]) (by simp [results, Tryz.results61, go_sem, z0, z1, z2, z4]) rfl ⟨_, rfl, ?_, ?_⟩
          · rw [HD.out]; exact HRES.out.1
          · show Below _ _ _; rw [HBe.out]; exact HRES.out.2
/-- a dyad that reads as d, of at most a million bits -/
def Dl (w : World) (v : Value) (d : Dy) : Prop :=
  ∃ bb nb ao n ca x f, v = .agg #[.bool bb, .bool nb, .slice ao n ca, .int .i64 f] ∧ Bg w nb ao n ca x ∧ blen x.natAbs ≤ 1000000 ∧ -9223372036854775808 ≤ f ∧ f ≤ 9223372036854775807 ∧ d = if bb then none else dmk x f

theorem Dl.dg {w : World} {v : Value} {d : Dy} (h : Dl w v d) : Dg w v d := by
  obtain ⟨bb, nb, ao, n, ca, x, f, h1, h2, _, h3⟩ := h
  exact ⟨bb, nb, ao, n, ca, x, f, h1, h2, h3⟩
theorem Dl.ext {w w' : World} {v : Value} {d : Dy} (h : Dl w v d) (he : Ext w w') : Dl w' v d := by
  obtain ⟨bb, nb, ao, n, ca, x, f, h1, h2, h3⟩ := h
  exact ⟨bb, nb, ao, n, ca, x, f, h1, h2.below he, h3⟩
theorem Dn.dl {w : World} {v : Value} {d : Dy} (h : Dn w v d) : Dl w v d := by
  obtain ⟨h0, nb, ao, n, ca, h1, h2⟩ := h
  obtain ⟨hb, he0, he1⟩ := nd_blen h0
  have hl : n ≤ 4096 := by
    rw [← h2.sl.len]
    exact limbs_of_blen (by omega)
  refine ⟨_, nb, ao, n, ca, _, _, h1, h2.bg (by omega), by omega, by omega, by omega, ?_⟩
  cases d with
  | none => rfl
  | some p => exact (dmk_norm h0).symm

set_option maxRecDepth 100000 in
set_option maxHeartbeats 2000000 in
theorem refDNorm_any (v : Value) (d : Dy) (w : World) (h : Dl w v d) (hT : Table w) :
    Calls Tryz.prog 57 #[v] w fun e w' => ∃ r, e = .returned r ∧ Dn w' r d ∧ Ext w w' := by
  obtain ⟨bb, nb, ao, n, ca, x, f, rfl, h, hbl, hf0, hf1, hd⟩ := h
  have HD := Lib.hid hd; clear hd
  go_enter Tryz.func57, Tryz.ntmps57
  go_upto_region 1 with fail
  obtain ⟨W, hW, hB, hbx, hrx, hz⟩ := boxes_dd w bb nb ao n ca f
  rw [← hW]
  clear hW
  have h := h.below hB
  have HT := Lib.hid (hT.below hB)
  generalize hBe : w.heap.size = B at *
  have HBe := Lib.hid hBe; clear hBe hT
  have k0 := hbx.c0
  have k1 := hbx.c1
  have k2 := hbx.c2
  have k3 := hbx.c3
  cases bb with
  | true =>
    go_wp2_with fail
    refine (refBad_any W).mono ?_
    rintro e w1 ⟨rfl, hw1⟩
    have c1 := hrx.below hw1
    obtain ⟨hB1, hB1'⟩ := bnext hB (by omega) hw1
    clear k0 k1 k2 k3
    have q0 := c1.c0
    have q1 := c1.c1
    have q2 := c1.c2
    have q3 := c1.c3
    have f0 := c1.f 0
    have f1 := c1.f 1
    have f2 := c1.f 2
    have f3 := c1.f 3
    have hres := dn_stored c1 (dn_bad _) w hB1 (Nat.le_succ B)
    have z3 := c1.stored true false none 0 0 0
    have z0 := z3.c0
    have z1 := z3.c1
    have z2 := z3.c2
    have z4 := z3.c3
    have HRES := Lib.hid hres; clear hres z3
    go_wp2
    refine bodyPost_ret (v := .agg #[.bool true, .bool false, .slice none 0 0, .int .i64 0]) (by simp [results, Tryz.results57, go_sem, z0, z1, z2, z4]) rfl ⟨_, rfl, ?_, ?_⟩
    · rw [HD.out]; exact HRES.out.1
    · show Below _ _ _; rw [HBe.out]; exact HRES.out.2
  | false =>
    go_wp2_with fail
    refine (refMake_any _ _ _ _ _ _ _ h hbl hf0 hf1 HT.out).mono ?_
    rintro e w1 ⟨r, rfl, hr, hw1⟩
    have c1 := hrx.below hw1
    obtain ⟨hB1, hB1'⟩ := bnext hB (by omega) hw1
    obtain ⟨mbb, mb, mo, m, cb, me, rfl⟩ := hr.parts
    clear k0 k1 k2 k3 h hbl
    have q0 := c1.c0
    have q1 := c1.c1
    have q2 := c1.c2
    have q3 := c1.c3
    have f0 := c1.f 0
    have f1 := c1.f 1
    have f2 := c1.f 2
    have f3 := c1.f 3
    have hres := dn_stored c1 hr w hB1 (Nat.le_succ B)
    have z3 := c1.stored mbb mb mo m cb me
    have z0 := z3.c0
    have z1 := z3.c1
    have z2 := z3.c2
    have z4 := z3.c3
    have HRES := Lib.hid hres; clear hres z3
    go_wp2
    refine bodyPost_ret (v := .agg #[.bool mbb, .bool mb, .slice mo m cb, .int .i64 me]) (by simp [results, Tryz.results57, go_sem, z0, z1, z2, z4]) rfl ⟨_, rfl, ?_, ?_⟩
    · rw [HD.out]; exact HRES.out.1
    · show Below _ _ _; rw [HBe.out]; exact HRES.out.2

end Go.Proofs.YtapcecjbmcoliaaGreatDoor
