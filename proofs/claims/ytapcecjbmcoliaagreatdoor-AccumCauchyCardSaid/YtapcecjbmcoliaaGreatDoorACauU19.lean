import Derived.Test.YtapcecjbmcoliaaGreatDoorACauU18
import Derived.Test.YtapcecjbmcoliaaGreatDoorACauU2
import Derived.Test.YtapcecjbmcoliaaGreatDoorACauU11
import Derived.Test.YtapcecjbmcoliaaGreatDoorACauU10
import Derived.Test.YtapcecjbmcoliaaGreatDoorACauU17
namespace Go.Proofs.YtapcecjbmcoliaaGreatDoor
open Go.RowKit

theorem limbs_len_toNat {zs : List Int} (h : Wf zs) : (limbs (num zs).toNat).length ≤ zs.length := by
  rw [tlen_eq h]; exact tlen_le _ _

set_option maxRecDepth 100000 in
set_option maxHeartbeats 1000000 in
theorem bitLenOut_any (nb : Bool) (ao : Option Addr) (n cap : Nat) (x : Int) (w : World) (h : Bg w nb ao n cap x) :
    Calls Tryz.prog 48 #[.agg #[.bool nb, .slice ao n cap]] w fun e w' => e = .returned (.int .i64 (blen x.natAbs)) ∧ Below w.heap.size w w' := by
  obtain ⟨⟨zs, hs, hx⟩, hsm⟩ := h
  have eax : (num zs).toNat = x.natAbs := by rw [hx, sgd_natAbs hs.wf]
  clear hx
  go_enter Tryz.func48, Tryz.ntmps48
  go_wp2_with fail
  obtain ⟨W, hW, hB, hbx, hsz⟩ := box_new w nb ao n cap
  rw [← hW]
  clear hW
  have hs0 := hs.below hB
  generalize hBe : w.heap.size = B at *
  have HBe := Lib.hid hBe; clear hBe
  have k0 := hbx.c0
  have k1 := hbx.c1
  go_wp2_with fail
  refine (trim_sl ao n cap zs W hs0).mono ?_
  rintro e w1 ⟨k, rfl, hs1, rfl⟩
  rw [eax] at hs1
  have hk : k ≤ n := by
    have h1 := limbs_len_toNat hs0.wf
    rw [hs0.len, eax, hs1.len] at h1
    exact h1
  go_wp2_with fail
  refine (bitLen_any x.natAbs ao k cap W hs1 (by omega)).mono ?_
  rintro e w1 ⟨rfl, rfl⟩
  go_wp2
  go_ret
  exact ⟨rfl, by rw [HBe.out]; exact hB⟩

set_option maxRecDepth 100000 in
set_option maxHeartbeats 1000000 in
theorem trailingZerosOut_any (nb : Bool) (ao : Option Addr) (n cap : Nat) (x : Int) (w : World) (h : Bg w nb ao n cap x) (hT : Table w) :
    Calls Tryz.prog 51 #[.agg #[.bool nb, .slice ao n cap]] w fun e w' => ∃ t : Nat, e = .returned (.int .i64 t) ∧ IsTz x.natAbs t ∧ Below w.heap.size w w' := by
  obtain ⟨⟨zs, hs, hx⟩, hsm⟩ := h
  have eax : (num zs).toNat = x.natAbs := by rw [hx, sgd_natAbs hs.wf]
  clear hx
  go_enter Tryz.func51, Tryz.ntmps51
  go_wp2_with fail
  obtain ⟨W, hW, hB, hbx, hsz⟩ := box_new w nb ao n cap
  rw [← hW]
  clear hW
  have hs0 := hs.below hB
  have HT := Lib.hid (hT.below hB)
  generalize hBe : w.heap.size = B at *
  have HBe := Lib.hid hBe; clear hBe
  have k0 := hbx.c0
  have k1 := hbx.c1
  clear hT
  go_wp2_with fail
  refine (trim_sl ao n cap zs W hs0).mono ?_
  rintro e w1 ⟨k, rfl, hs1, rfl⟩
  rw [eax] at hs1
  have hk : k ≤ n := by
    have h1 := limbs_len_toNat hs0.wf
    rw [hs0.len, eax, hs1.len] at h1
    exact h1
  go_wp2_with fail
  refine (trailingZeros_any x.natAbs ao k cap W hs1 (by omega) HT.out).mono ?_
  rintro e w1 ⟨t, rfl, ht, rfl⟩
  go_wp2
  go_ret
  exact ⟨t, rfl, ht, by rw [HBe.out]; exact hB⟩

theorem sgd_abs {nb : Bool} {zs : List Int} {x : Int} (hx : x = sgd nb zs) (h : Wf zs) : x = if nb then - (x.natAbs : Int) else x.natAbs := by
  have e := sgd_natAbs (nb := nb) h
  have h0 := num_nonneg h
  rw [hx, e]
  cases nb <;> simp [sgd] <;> omega

set_option maxRecDepth 100000 in
set_option maxHeartbeats 2000000 in
theorem shift_left (nb : Bool) (ao : Option Addr) (n cap : Nat) (x : Int) (k : Nat) (w : World) (h : Bg w nb ao n cap x) (hk : k ≤ 1048576) :
    Calls Tryz.prog 49 #[.agg #[.bool nb, .slice ao n cap], .int .i64 (k : Int)] w fun e w' => ∃ nr ro l cr, e = .returned (.tuple #[.agg #[.bool nr, .slice ro l cr], .int .i64 0]) ∧ Bn w' nr ro l cr (x * 2 ^ k) ∧ Below w.heap.size w w' := by
  obtain ⟨⟨zs, hs, hx⟩, hsm⟩ := h
  have eax : (num zs).toNat = x.natAbs := by rw [hx, sgd_natAbs hs.wf]
  have hx2 := Lib.hid (sgd_abs hx hs.wf)
  clear hx
  go_enter Tryz.func49, Tryz.ntmps49
  go_wp2_with fail
  obtain ⟨W, hW, hB, hbx, hrx, hz⟩ := boxes1 w nb ao n cap
  rw [← hW]
  clear hW
  have hs0 := hs.below hB
  generalize hBe : w.heap.size = B at *
  have HBe := Lib.hid hBe; clear hBe
  have k0 := hbx.c0
  have k1 := hbx.c1
  obtain ⟨m, hm, hs1, ht1⟩ := trim_zs hs0 _ eax
  have HT1 := Lib.hid ht1; clear ht1 eax
  go_wp2_with fail
  refine (HT1.out W hs0).mono ?_
  rintro e w1 ⟨rfl, rfl⟩
  clear hs hs0 HT1
  go_wp2_with fail
  go_region_held3 (fun w' => w'.cell? ⟨B, 0, none⟩ = some (.bool nb) ∧ w'.cell? ⟨B, 1, none⟩ = some (.slice ao n cap))
    (first | exact ⟨k0, k1⟩ | exact ⟨x2.c0, x2.c1⟩ | exact ⟨x3.c0, x3.c1⟩ | (refine ⟨?_, ?_⟩ <;> go_simp))
    (first
      | (go_at_call 74; refine (shiftUp_any x.natAbs k ao m cap _ (by exact hs1.below ((Below.refl _ _).drew)) (by omega) (by omega)).mono ?_; rintro e w2 ⟨so, sl, sc, rfl, hs2, hw2⟩; have x2 := (hbx.below ((Below.refl _ _).drew)).below hw2; have y2 := (hrx.below ((Below.refl _ _).drew)).below hw2)
      | (go_at_call 53; refine (signed_any _ _ _ _ _ _ (by exact hs2)).mono ?_; rintro e w3 ⟨ro, cr, rfl, hs3, hw3⟩; have x3 := x2.below hw3; have y3 := y2.below hw3; have q0 := y3.c0; have q1 := y3.c1; have q2 := y3.f 0; have q3 := y3.f 1; have e0 := x3.c0; have e1 := x3.c1))
  have z3 := y3.stored (nb && decide (0 < sl)) ro sl cr
  have z0 := z3.c0
  have z1 := z3.c1
  go_wp2
  refine bodyPost_ret (v := .tuple #[.agg #[.bool (nb && decide (0 < sl)), .slice ro sl cr], .int .i64 0]) (by simp [results, Tryz.results49, go_sem, z0, z1]) rfl ⟨_, ro, sl, cr, rfl, ?_, ?_⟩
  · refine bn_of (hs3.only_box y3 (only_set2 _ _ _ _)) rfl ?_
    conv => lhs; rw [hx2.out]
    cases nb <;> simp [Int.neg_mul]
  · obtain ⟨b1, l1⟩ := bnext hB (by omega) (Below.refl _ W).drew
    obtain ⟨b2, l2⟩ := bnext b1 l1 hw2
    obtain ⟨b3, l3⟩ := bnext b2 l2 hw3
    rw [HBe.out]
    exact b3.trans ((only_set2 _ _ _ _).below (by omega))

theorem down_plain {nb : Bool} {x : Int} {k : Nat} (hx : x = if nb then - (x.natAbs : Int) else x.natAbs) (h : x < 0 → x.natAbs % 2 ^ k = 0) :
    x / 2 ^ k = if nb then - ((x.natAbs / 2 ^ k : Nat) : Int) else ((x.natAbs / 2 ^ k : Nat) : Int) := by
  have hc : ((2 ^ k : Nat) : Int) = 2 ^ k := by rw [Int.natCast_pow]; rfl
  have hp : 0 < 2 ^ k := Nat.pos_of_ne_zero (by simp)
  rw [← hc]
  generalize 2 ^ k = p at *
  generalize x.natAbs = a at *
  cases nb with
  | false => simp only [Bool.false_eq_true, if_false] at hx ⊢; rw [hx, Int.natCast_ediv]
  | true =>
    simp only [if_true] at hx ⊢
    by_cases h0 : a = 0
    · subst h0; rw [hx]; simp
    · have hd : (p : Int) ∣ (a : Int) := Int.natCast_dvd_natCast.2 (Nat.dvd_of_mod_eq_zero (h (by omega)))
      rw [hx, Int.neg_ediv_of_dvd hd, Int.natCast_ediv]

theorem down_adj {x : Int} {k : Nat} (h0 : x < 0) (h : x.natAbs % 2 ^ k ≠ 0) : x / 2 ^ k = - ((x.natAbs / 2 ^ k + 1 : Nat) : Int) := by
  have hc : ((2 ^ k : Nat) : Int) = 2 ^ k := by rw [Int.natCast_pow]; rfl
  have hp : 0 < 2 ^ k := Nat.pos_of_ne_zero (by simp)
  have hx : x = - (x.natAbs : Int) := by omega
  rw [← hc]
  generalize 2 ^ k = p at *
  generalize x.natAbs = a at *
  have hdm := Nat.div_add_mod a p
  have hlt := Nat.mod_lt a hp
  generalize a / p = q at *
  generalize a % p = r at *
  have e : x = (p - r : Int) + (-(q + 1 : Nat) : Int) * p := by
    rw [hx, ← hdm]
    push_cast
    rw [Int.neg_mul, Int.add_mul, Int.one_mul, Int.mul_comm (p : Int)]
    omega
  rw [e, Int.add_mul_ediv_right _ _ (by omega), Int.ediv_eq_zero_of_lt (by omega) (by omega)]
  omega

set_option maxRecDepth 100000 in
set_option maxHeartbeats 4000000 in
theorem shift_right (nb : Bool) (ao : Option Addr) (n cap : Nat) (x : Int) (k : Nat) (w : World) (h : Bg w nb ao n cap x) (hk : k ≤ 1048576) (hk0 : 0 < k) (hT : Table w) :
    Calls Tryz.prog 49 #[.agg #[.bool nb, .slice ao n cap], .int .i64 (-(k : Int))] w fun e w' => ∃ nr ro l cr, e = .returned (.tuple #[.agg #[.bool nr, .slice ro l cr], .int .i64 0]) ∧ Bn w' nr ro l cr (x / 2 ^ k) ∧ Below w.heap.size w w' := by
  have hbg := h
  obtain ⟨⟨zs, hs, hx⟩, hsm⟩ := h
  have eax : (num zs).toNat = x.natAbs := by rw [hx, sgd_natAbs hs.wf]
  have hx2 := Lib.hid (sgd_abs hx hs.wf)
  clear hx
  go_enter Tryz.func49, Tryz.ntmps49
  go_wp2_with fail
  obtain ⟨W, hW, hB, hbx, hrx, hz⟩ := boxes1 w nb ao n cap
  rw [← hW]
  clear hW
  have hs0 := hs.below hB
  have hbg0 := hbg.below hB
  have HT := Lib.hid (hT.below hB)
  generalize hBe : w.heap.size = B at *
  have HBe := Lib.hid hBe; clear hBe
  have k0 := hbx.c0
  have k1 := hbx.c1
  obtain ⟨m, hm, hs1, ht1⟩ := trim_zs hs0 _ eax
  have HT1 := Lib.hid ht1; clear ht1 eax
  go_wp2_with fail
  refine (HT1.out W hs0).mono ?_
  rintro e w1 ⟨rfl, rfl⟩
  clear hs hs0 HT1 hT hbg
  go_wp2_with fail
  refine (shiftDown_any x.natAbs k ao m cap _ hs1 (by omega) (by omega)).mono ?_
  rintro e w2 ⟨so, sl, sc, rfl, hs2, hw2⟩
  have x2 := hbx.below hw2
  have y2 := hrx.below hw2
  have hs12 := hs1.below hw2
  have hbg2 := hbg0.below hw2
  have HT2 := Lib.hid (HT.out.below hw2)
  obtain ⟨b2, l2⟩ := bnext hB (by omega) hw2
  have hsz2 := hw2.size
  clear k0 k1 hbx hrx hs1 hbg0 HT hB hw2
  have k0 := x2.c0
  have k1 := x2.c1
  go_wp2_with fail
  refine (sign_any nb ao n cap x w2 hbg2).mono ?_
  rintro e w3 ⟨rfl, hw3⟩
  have x3 := x2.below hw3
  have y3 := y2.below hw3
  have hs13 := hs12.below hw3
  have hs23 := hs2.below hw3
  have HT3 := Lib.hid (HT2.out.below hw3)
  obtain ⟨b3, l3⟩ := bnext b2 l2 hw3
  have hsz3 := hw3.size
  clear k0 k1 x2 y2 hs12 hs2 HT2 hw3 b2 l2 hbg2
  have k0 := x3.c0
  have k1 := x3.c1
  by_cases hneg : x < 0
  · have hsg : sgn3 x 0 = -1 := by simp [sgn3, hneg]
    rw [hsg]
    have HNEG := Lib.hid hneg; clear hneg hsg
    go_wp2_with fail
    refine (trailingZeros_any x.natAbs ao m cap w3 hs13 (by omega) HT3.out).mono ?_
    rintro e w4 ⟨t, rfl, ht, rfl⟩
    have hdv := ht.dvd (by have := HNEG.out; omega) k
    have HDV := Lib.hid hdv; clear hdv ht
    by_cases hlt : t < k
    · have hltz : (t : Int) < (k : Int) := by omega
      have hmod := HDV.out.1 hlt
      have HMOD := Lib.hid hmod; clear hmod HDV hlt
      go_wp2_with fail
      have hone : Blk (w3.alloc (.cells #[.int .u32 1] 47)) w3.heap.size [1] := heap_alloc_new w3 _
      have hbw := (Below.refl w3.heap.size w3).alloc (Nat.le_refl _) (.cells #[.int .u32 1] 47)
      have hl1 : limbs 1 = [1] := by rw [limbs_pos (by omega), limbs_zero]; rfl
      have hsone := hone.sl (n := 1) (cap := 1) (Wf.cons (by omega) Wf.nil) rfl (by omega) (Nat.le_refl _)
      rw [← hl1] at hsone
      have hsl : sl ≤ m := by
        have h1 := limbs_mono (Nat.div_le_self x.natAbs (2 ^ k))
        rw [hs13.len, hs23.len] at h1
        exact h1
      refine (plus_any _ _ _ _ _ _ _ _ _ (hs23.below hbw) hsone (by omega) (by omega)).mono ?_
      rintro e w4 ⟨qo, qk, qc, rfl, hs4, hw4⟩
      have hw4' := hbw.trans (hw4.mono (by simp))
      have x4 := x3.below hw4'
      have y4 := y3.below hw4'
      obtain ⟨b4, l4⟩ := bnext b3 l3 hw4'
      have hsz4 := hw4'.size
      clear k0 k1 x3 y3 hs13 hs23 hbw hone hsone hl1 hw4 hw4' b3 l3 HT3
      have k0 := x4.c0
      have k1 := x4.c1
      have hnb : nb = true := by
        have h1 := HNEG.out
        have h2 := hx2.out
        cases nb
        · simp at h2; omega
        · rfl
      subst hnb
      go_wp2_with fail
      refine (signed_any _ _ _ _ _ _ hs4).mono ?_
      rintro e w5 ⟨ro, cr, rfl, hs5, hw5⟩
      have y5 := y4.below hw5
      obtain ⟨b5, l5⟩ := bnext b4 l4 hw5
      clear k0 k1
      have q0 := y5.c0
      have q1 := y5.c1
      have q2 := y5.f 0
      have q3 := y5.f 1
      have z5 := y5.stored (true && decide (0 < qk)) ro qk cr
      have z0 := z5.c0
      have z1 := z5.c1
      have hres := bn_of (x := x / 2 ^ k) (nb := true) (hs5.only_box y5 (only_set2 w5 (B + 1) (.bool (true && decide (0 < qk))) (.slice ro qk cr))) rfl (by rw [down_adj HNEG.out HMOD.out]; simp)
      have HRES := Lib.hid hres; clear hres
      have hbl := b5.trans ((only_set2 w5 (B + 1) (.bool (true && decide (0 < qk))) (.slice ro qk cr)).below (Nat.le_succ B))
      simp only [Bool.true_and] at z0 z1 HRES hbl
      go_wp2
      refine bodyPost_ret (v := .tuple #[.agg #[.bool (decide (0 < qk)), .slice ro qk cr], .int .i64 0]) (by simp [results, Tryz.results49, go_sem, z0, z1]) rfl ⟨_, ro, qk, cr, rfl, HRES.out, ?_⟩
      rw [HBe.out]; exact hbl
    · have hltz : ¬ (t : Int) < (k : Int) := by omega
      have hmod : x.natAbs % 2 ^ k = 0 := by
        rcases Nat.eq_zero_or_pos (x.natAbs % 2 ^ k) with h | h
        · exact h
        · exact absurd (HDV.out.2 (by omega)) hlt
      have HMOD := Lib.hid hmod; clear hmod HDV hlt
      go_wp2_with fail
      refine (signed_any _ _ _ _ _ _ hs23).mono ?_
      rintro e w5 ⟨ro, cr, rfl, hs5, hw5⟩
      have y5 := y3.below hw5
      obtain ⟨b5, l5⟩ := bnext b3 l3 hw5
      clear k0 k1
      have q0 := y5.c0
      have q1 := y5.c1
      have q2 := y5.f 0
      have q3 := y5.f 1
      have z5 := y5.stored (nb && decide (0 < sl)) ro sl cr
      have z0 := z5.c0
      have z1 := z5.c1
      have hres := bn_of (x := x / 2 ^ k) (nb := nb) (hs5.only_box y5 (only_set2 w5 (B + 1) (.bool (nb && decide (0 < sl))) (.slice ro sl cr))) rfl (down_plain hx2.out (fun _ => HMOD.out))
      have HRES := Lib.hid hres; clear hres
      have hbl := b5.trans ((only_set2 w5 (B + 1) (.bool (nb && decide (0 < sl))) (.slice ro sl cr)).below (Nat.le_succ B))
      go_wp2
      refine bodyPost_ret (v := .tuple #[.agg #[.bool (nb && decide (0 < sl)), .slice ro sl cr], .int .i64 0]) (by simp [results, Tryz.results49, go_sem, z0, z1]) rfl ⟨_, ro, sl, cr, rfl, HRES.out, ?_⟩
      rw [HBe.out]; exact hbl
  · have hsg : 0 ≤ sgn3 x 0 := sgn3_nonneg (by omega)
    generalize sgn3 x 0 = s at *
    have HNEG := Lib.hid hneg; clear hneg
    go_wp2_with fail
    refine (signed_any _ _ _ _ _ _ hs23).mono ?_
    rintro e w5 ⟨ro, cr, rfl, hs5, hw5⟩
    have y5 := y3.below hw5
    obtain ⟨b5, l5⟩ := bnext b3 l3 hw5
    clear k0 k1
    have q0 := y5.c0
    have q1 := y5.c1
    have q2 := y5.f 0
    have q3 := y5.f 1
    have z5 := y5.stored (nb && decide (0 < sl)) ro sl cr
    have z0 := z5.c0
    have z1 := z5.c1
    have hres := bn_of (x := x / 2 ^ k) (nb := nb) (hs5.only_box y5 (only_set2 w5 (B + 1) (.bool (nb && decide (0 < sl))) (.slice ro sl cr))) rfl (down_plain hx2.out (fun h => absurd h (by have := HNEG.out; omega)))
    have HRES := Lib.hid hres; clear hres
    have hbl := b5.trans ((only_set2 w5 (B + 1) (.bool (nb && decide (0 < sl))) (.slice ro sl cr)).below (Nat.le_succ B))
    go_wp2
    refine bodyPost_ret (v := .tuple #[.agg #[.bool (nb && decide (0 < sl)), .slice ro sl cr], .int .i64 0]) (by simp [results, Tryz.results49, go_sem, z0, z1]) rfl ⟨_, ro, sl, cr, rfl, HRES.out, ?_⟩
    rw [HBe.out]; exact hbl
end Go.Proofs.YtapcecjbmcoliaaGreatDoor
