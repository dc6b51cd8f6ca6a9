import Derived.Test.YtlpclahlolhjfaaGreatDoorMoRlU16
import Derived.Test.YtlpclahlolhjfaaGreatDoorMoRlU2
import Derived.Test.YtlpclahlolhjfaaGreatDoorMoRlU13
import Derived.Test.YtlpclahlolhjfaaGreatDoorMoRlU9
import Derived.Test.YtlpclahlolhjfaaGreatDoorMoRlU11
import Derived.Test.YtlpclahlolhjfaaGreatDoorMoRlU0
namespace Go.Proofs.YtlpclahlolhjfaaGreatDoor
open Go.RowKit

theorem limbs_len_toNat {zs : List Int} (h : Wf zs) : (limbs (num zs).toNat).length ≤ zs.length := by
  rw [tlen_eq h]; exact tlen_le _ _

theorem sgd_abs {nb : Bool} {zs : List Int} {x : Int} (hx : x = sgd nb zs) (h : Wf zs) : x = if nb then - (x.natAbs : Int) else x.natAbs := by
  have e := sgd_natAbs (nb := nb) h
  have h0 := num_nonneg h
  rw [hx, e]
  cases nb <;> simp [sgd] <;> omega

set_option maxRecDepth 100000 in
set_option maxHeartbeats 2000000 in
theorem shift_left (nb : Bool) (ao : Option Addr) (n cap : Nat) (x : Int) (k : Nat) (w : World) (h : Bg w nb ao n cap x) (hk : k ≤ 1048576) :
    Calls Tryz.prog 41 #[.agg #[.bool nb, .slice ao n cap], .int .i64 (k : Int)] w fun e w' => ∃ nr ro l cr, e = .returned (.tuple #[.agg #[.bool nr, .slice ro l cr], .int .i64 0]) ∧ Bn w' nr ro l cr (x * 2 ^ k) ∧ Below w.heap.size w w' := by
  obtain ⟨⟨zs, hs, hx⟩, hsm⟩ := h
  have eax : (num zs).toNat = x.natAbs := by rw [hx, sgd_natAbs hs.wf]
  have hx2 := Lib.hid (sgd_abs hx hs.wf)
  clear hx
  go_enter Tryz.func41, Tryz.ntmps41
  go_wp2_with fail
  obtain ⟨W, hW, hB, hbx, hrx, hz⟩ := boxes1 w nb ao n cap
  rw [← hW]
  clear hW
  have hs0 := hs.below hB
  generalize hBe : w.heap.size = B at *
  have HBe := Lib.hid hBe; clear hBe
  have k0 := hbx.c0
  have k1 := hbx.c1
  obtain ⟨m, hm, hs1, ht1⟩ := trim_zs hs0 _ eax
  have HT1 := Lib.hid ht1; clear ht1 eax
  go_wp2_with fail
  refine (HT1.out W hs0).mono ?_
  rintro e w1 ⟨rfl, rfl⟩
  clear hs hs0 HT1
  go_wp2_with fail
  go_region_held3 (fun w' => w'.cell? ⟨B, 0, none⟩ = some (.bool nb) ∧ w'.cell? ⟨B, 1, none⟩ = some (.slice ao n cap))
    (first | exact ⟨k0, k1⟩ | exact ⟨x2.c0, x2.c1⟩ | exact ⟨x3.c0, x3.c1⟩ | (refine ⟨?_, ?_⟩ <;> go_simp))
    (first
      | (go_at_call 84; refine (shiftUp_any x.natAbs k ao m cap _ (by exact hs1.below ((Below.refl _ _).drew)) (by omega) (by omega)).mono ?_; rintro e w2 ⟨so, sl, sc, rfl, hs2, hw2⟩; have x2 := (hbx.below ((Below.refl _ _).drew)).below hw2; have y2 := (hrx.below ((Below.refl _ _).drew)).below hw2)
      | (go_at_call 55; refine (signed_any _ _ _ _ _ _ (by exact hs2)).mono ?_; rintro e w3 ⟨ro, cr, rfl, hs3, hw3⟩; have x3 := x2.below hw3; have y3 := y2.below hw3; have q0 := y3.c0; have q1 := y3.c1; have q2 := y3.f 0; have q3 := y3.f 1; have e0 := x3.c0; have e1 := x3.c1))
  have z3 := y3.stored (nb && decide (0 < sl)) ro sl cr
  have z0 := z3.c0
  have z1 := z3.c1
  go_wp2
  refine bodyPost_ret (v := .tuple #[.agg #[.bool (nb && decide (0 < sl)), .slice ro sl cr], .int .i64 0]) (by simp [results, Tryz.results41, go_sem, z0, z1]) rfl ⟨_, ro, sl, cr, rfl, ?_, ?_⟩
  · refine bn_of (hs3.only_box y3 (only_set2 _ _ _ _)) rfl ?_
    conv => lhs; rw [hx2.out]
    cases nb <;> simp [Int.neg_mul]
  · obtain ⟨b1, l1⟩ := bnext hB (by omega) (Below.refl _ W).drew
    obtain ⟨b2, l2⟩ := bnext b1 l1 hw2
    obtain ⟨b3, l3⟩ := bnext b2 l2 hw3
    rw [HBe.out]
    exact b3.trans ((only_set2 _ _ _ _).below (by omega))

theorem down_plain {nb : Bool} {x : Int} {k : Nat} (hx : x = if nb then - (x.natAbs : Int) else x.natAbs) (h : x < 0 → x.natAbs % 2 ^ k = 0) :
    x / 2 ^ k = if nb then - ((x.natAbs / 2 ^ k : Nat) : Int) else ((x.natAbs / 2 ^ k : Nat) : Int) := by
  have hc : ((2 ^ k : Nat) : Int) = 2 ^ k := by rw [Int.natCast_pow]; rfl
  have hp : 0 < 2 ^ k := Nat.pos_of_ne_zero (by simp)
  rw [← hc]
  generalize 2 ^ k = p at *
  generalize x.natAbs = a at *
  cases nb with
  | false => simp only [Bool.false_eq_true, if_false] at hx ⊢; rw [hx, Int.natCast_ediv]
  | true =>
    simp only [if_true] at hx ⊢
    by_cases h0 : a = 0
    · subst h0; rw [hx]; simp
    · have hd : (p : Int) ∣ (a : Int) := Int.natCast_dvd_natCast.2 (Nat.dvd_of_mod_eq_zero (h (by omega)))
      rw [hx, Int.neg_ediv_of_dvd hd, Int.natCast_ediv]

theorem down_adj {x : Int} {k : Nat} (h0 : x < 0) (h : x.natAbs % 2 ^ k ≠ 0) : x / 2 ^ k = - ((x.natAbs / 2 ^ k + 1 : Nat) : Int) := by
  have hc : ((2 ^ k : Nat) : Int) = 2 ^ k := by rw [Int.natCast_pow]; rfl
  have hp : 0 < 2 ^ k := Nat.pos_of_ne_zero (by simp)
  have hx : x = - (x.natAbs : Int) := by omega
  rw [← hc]
  generalize 2 ^ k = p at *
  generalize x.natAbs = a at *
  have hdm := Nat.div_add_mod a p
  have hlt := Nat.mod_lt a hp
  generalize a / p = q at *
  generalize a % p = r at *
  have e : x = (p - r : Int) + (-(q + 1 : Nat) : Int) * p := by
    rw [hx, ← hdm]
    push_cast
    rw [Int.neg_mul, Int.add_mul, Int.one_mul, Int.mul_comm (p : Int)]
    omega
  rw [e, Int.add_mul_ediv_right _ _ (by omega), Int.ediv_eq_zero_of_lt (by omega) (by omega)]
  omega

set_option maxRecDepth 100000 in
set_option maxHeartbeats 4000000 in
theorem shift_right (nb : Bool) (ao : Option Addr) (n cap : Nat) (x : Int) (k : Nat) (w : World) (h : Bg w nb ao n cap x) (hk : k ≤ 1048576) (hk0 : 0 < k) (hT : Table w) :
    Calls Tryz.prog 41 #[.agg #[.bool nb, .slice ao n cap], .int .i64 (-(k : Int))] w fun e w' => ∃ nr ro l cr, e = .returned (.tuple #[.agg #[.bool nr, .slice ro l cr], .int .i64 0]) ∧ Bn w' nr ro l cr (x / 2 ^ k) ∧ Below w.heap.size w w' := by
  have hbg := h
  obtain ⟨⟨zs, hs, hx⟩, hsm⟩ := h
  have eax : (num zs).toNat = x.natAbs := by rw [hx, sgd_natAbs hs.wf]
  have hx2 := Lib.hid (sgd_abs hx hs.wf)
  clear hx
  go_enter Tryz.func41, Tryz.ntmps41
  go_wp2_with fail
  obtain ⟨W, hW, hB, hbx, hrx, hz⟩ := boxes1 w nb ao n cap
  rw [← hW]
  clear hW
  have hs0 := hs.below hB
  have hbg0 := hbg.below hB
  have HT := Lib.hid (hT.below hB)
  generalize hBe : w.heap.size = B at *
  have HBe := Lib.hid hBe; clear hBe
  have k0 := hbx.c0
  have k1 := hbx.c1
  obtain ⟨m, hm, hs1, ht1⟩ := trim_zs hs0 _ eax
  have HT1 := Lib.hid ht1; clear ht1 eax
  go_wp2_with fail
  refine (HT1.out W hs0).mono ?_
  rintro e w1 ⟨rfl, rfl⟩
  clear hs hs0 HT1 hT hbg
  go_wp2_with fail
  refine (shiftDown_any x.natAbs k ao m cap _ hs1 (by omega) (by omega)).mono ?_
  rintro e w2 ⟨so, sl, sc, rfl, hs2, hw2⟩
  have x2 := hbx.below hw2
  have y2 := hrx.below hw2
  have hs12 := hs1.below hw2
  have hbg2 := hbg0.below hw2
  have HT2 := Lib.hid (HT.out.below hw2)
  obtain ⟨b2, l2⟩ := bnext hB (by omega) hw2
  have hsz2 := hw2.size
  clear k0 k1 hbx hrx hs1 hbg0 HT hB hw2
  have k0 := x2.c0
  have k1 := x2.c1
  go_wp2_with fail
  refine (sign_any nb ao n cap x w2 hbg2).mono ?_
  rintro e w3 ⟨rfl, hw3⟩
  have x3 := x2.below hw3
  have y3 := y2.below hw3
  have hs13 := hs12.below hw3
  have hs23 := hs2.below hw3
  have HT3 := Lib.hid (HT2.out.below hw3)
  obtain ⟨b3, l3⟩ := bnext b2 l2 hw3
  have hsz3 := hw3.size
  clear k0 k1 x2 y2 hs12 hs2 HT2 hw3 b2 l2 hbg2
  have k0 := x3.c0
  have k1 := x3.c1
  by_cases hneg : x < 0
  · have hsg : sgn3 x 0 = -1 := by simp [sgn3, hneg]
    rw [hsg]
    have HNEG := Lib.hid hneg; clear hneg hsg
    go_wp2_with fail
    refine (trailingZeros_any x.natAbs ao m cap w3 hs13 (by omega) HT3.out).mono ?_
    rintro e w4 ⟨t, rfl, ht, rfl⟩
    have hdv := ht.dvd (by have := HNEG.out; omega) k
    have HDV := Lib.hid hdv; clear hdv ht
    by_cases hlt : t < k
    · have hltz : (t : Int) < (k : Int) := by omega
      have hmod := HDV.out.1 hlt
      have HMOD := Lib.hid hmod; clear hmod HDV hlt
      go_wp2_with fail
      have hone : Blk (w3.alloc (.cells #[.int .u32 1] 66)) w3.heap.size [1] := heap_alloc_new w3 _
      have hbw := (Below.refl w3.heap.size w3).alloc (Nat.le_refl _) (.cells #[.int .u32 1] 66)
      have hl1 : limbs 1 = [1] := by rw [limbs_pos (by omega), limbs_zero]; rfl
      have hsone := hone.sl (n := 1) (cap := 1) (Wf.cons (by omega) Wf.nil) rfl (by omega) (Nat.le_refl _)
      rw [← hl1] at hsone
      have hsl : sl ≤ m := by
        have h1 := limbs_mono (Nat.div_le_self x.natAbs (2 ^ k))
        rw [hs13.len, hs23.len] at h1
        exact h1
      refine (plus_any _ _ _ _ _ _ _ _ _ (hs23.below hbw) hsone (by omega) (by omega)).mono ?_
      rintro e w4 ⟨qo, qk, qc, rfl, hs4, hw4⟩
      have hw4' := hbw.trans (hw4.mono (by simp))
      have x4 := x3.below hw4'
      have y4 := y3.below hw4'
      obtain ⟨b4, l4⟩ := bnext b3 l3 hw4'
      have hsz4 := hw4'.size
      clear k0 k1 x3 y3 hs13 hs23 hbw hone hsone hl1 hw4 hw4' b3 l3 HT3
      have k0 := x4.c0
      have k1 := x4.c1
      have hnb : nb = true := by
        have h1 := HNEG.out
        have h2 := hx2.out
        cases nb
        · simp at h2; omega
        · rfl
      subst hnb
      go_wp2_with fail
      refine (signed_any _ _ _ _ _ _ hs4).mono ?_
      rintro e w5 ⟨ro, cr, rfl, hs5, hw5⟩
      have y5 := y4.below hw5
      obtain ⟨b5, l5⟩ := bnext b4 l4 hw5
      clear k0 k1
      have q0 := y5.c0
      have q1 := y5.c1
      have q2 := y5.f 0
      have q3 := y5.f 1
      have z5 := y5.stored (true && decide (0 < qk)) ro qk cr
      have z0 := z5.c0
      have z1 := z5.c1
      have hres := bn_of (x := x / 2 ^ k) (nb := true) (hs5.only_box y5 (only_set2 w5 (B + 1) (.bool (true && decide (0 < qk))) (.slice ro qk cr))) rfl (by rw [down_adj HNEG.out HMOD.out]; simp)
      have HRES := Lib.hid hres; clear hres
      have hbl := b5.trans ((only_set2 w5 (B + 1) (.bool (true && decide (0 < qk))) (.slice ro qk cr)).below (Nat.le_succ B))
      simp only [Bool.true_and] at z0 z1 HRES hbl
      go_wp2
      refine bodyPost_ret (v := .tuple #[.agg #[.bool (decide (0 < qk)), .slice ro qk cr], .int .i64 0]) (by simp [results, Tryz.results41, go_sem, z0, z1]) rfl ⟨_, ro, qk, cr, rfl, HRES.out, ?_⟩
      rw [HBe.out]; exact hbl
    · have hltz : ¬ (t : Int) < (k : Int) := by omega
      have hmod : x.natAbs % 2 ^ k = 0 := by
        rcases Nat.eq_zero_or_pos (x.natAbs % 2 ^ k) with h | h
        · exact h
        · exact absurd (HDV.out.2 (by omega)) hlt
      have HMOD := Lib.hid hmod; clear hmod HDV hlt
      go_wp2_with fail
      refine (signed_any _ _ _ _ _ _ hs23).mono ?_
      rintro e w5 ⟨ro, cr, rfl, hs5, hw5⟩
      have y5 := y3.below hw5
      obtain ⟨b5, l5⟩ := bnext b3 l3 hw5
      clear k0 k1
      have q0 := y5.c0
      have q1 := y5.c1
      have q2 := y5.f 0
      have q3 := y5.f 1
      have z5 := y5.stored (nb && decide (0 < sl)) ro sl cr
      have z0 := z5.c0
      have z1 := z5.c1
      have hres := bn_of (x := x / 2 ^ k) (nb := nb) (hs5.only_box y5 (only_set2 w5 (B + 1) (.bool (nb && decide (0 < sl))) (.slice ro sl cr))) rfl (down_plain hx2.out (fun _ => HMOD.out))
      have HRES := Lib.hid hres; clear hres
      have hbl := b5.trans ((only_set2 w5 (B + 1) (.bool (nb && decide (0 < sl))) (.slice ro sl cr)).below (Nat.le_succ B))
      go_wp2
      refine bodyPost_ret (v := .tuple #[.agg #[.bool (nb && decide (0 < sl)), .slice ro sl cr], .int .i64 0]) (by simp [results, Tryz.results41, go_sem, z0, z1]) rfl ⟨_, ro, sl, cr, rfl, HRES.out, ?_⟩
      rw [HBe.out]; exact hbl
  · have hsg : 0 ≤ sgn3 x 0 := sgn3_nonneg (by omega)
    generalize sgn3 x 0 = s at *
    have HNEG := Lib.hid hneg; clear hneg
    go_wp2_with fail
    refine (signed_any _ _ _ _ _ _ hs23).mono ?_
    rintro e w5 ⟨ro, cr, rfl, hs5, hw5⟩
    have y5 := y3.below hw5
    obtain ⟨b5, l5⟩ := bnext b3 l3 hw5
    clear k0 k1
    have q0 := y5.c0
    have q1 := y5.c1
    have q2 := y5.f 0
    have q3 := y5.f 1
    have z5 := y5.stored (nb && decide (0 < sl)) ro sl cr
    have z0 := z5.c0
    have z1 := z5.c1
    have hres := bn_of (x := x / 2 ^ k) (nb := nb) (hs5.only_box y5 (only_set2 w5 (B + 1) (.bool (nb && decide (0 < sl))) (.slice ro sl cr))) rfl (down_plain hx2.out (fun h => absurd h (by have := HNEG.out; omega)))
    have HRES := Lib.hid hres; clear hres
    have hbl := b5.trans ((only_set2 w5 (B + 1) (.bool (nb && decide (0 < sl))) (.slice ro sl cr)).below (Nat.le_succ B))
    go_wp2
    refine bodyPost_ret (v := .tuple #[.agg #[.bool (nb && decide (0 < sl)), .slice ro sl cr], .int .i64 0]) (by simp [results, Tryz.results41, go_sem, z0, z1]) rfl ⟨_, ro, sl, cr, rfl, HRES.out, ?_⟩
    rw [HBe.out]; exact hbl
end Go.Proofs.YtlpclahlolhjfaaGreatDoor

namespace Go.Proofs.YtlpclahlolhjfaaGreatDoor

theorem sq_nonneg (x : Int) : 0 ≤ x * x := by
  rcases Int.le_total 0 x with h | h
  · exact Int.mul_nonneg h h
  · exact Int.mul_nonneg_of_nonpos_of_nonpos h h

theorem sq_sub (a b : Int) : (a - b) * (a - b) = a * a - 2 * (a * b) + b * b := by
  rw [Int.sub_mul, Int.mul_sub, Int.mul_sub, Int.mul_comm b a]; omega
theorem sq_add (a b : Int) : (a + b) * (a + b) = a * a + 2 * (a * b) + b * b := by
  rw [Int.add_mul, Int.mul_add, Int.mul_add, Int.mul_comm b a]; omega
theorem sq_le {a b : Int} (h0 : 0 ≤ a) (h : a ≤ b) : a * a ≤ b * b := Int.mul_le_mul h h h0 (by omega)

/-- one step: from an A that is near the root of M to the half of A + M / A -/
theorem newton_step {A D M q : Int} (hA : 0 < A) (hD : 0 < D) (h2 : D * D ≤ 2 * A) (hlo : (A - D) * (A - D) < M) (hhi : M < (A + D) * (A + D))
    (q1 : 2 * (A * q) ≤ A * A + M) (q2 : A * A + M < 2 * (A * (q + 1))) (hq : 1 ≤ q) : (q - 1) * (q - 1) < M ∧ M < (q + 1) * (q + 1) := by
  constructor
  · rcases Int.lt_or_le ((q - 1) * (q - 1)) M with h | h
    · exact h
    · exfalso
      obtain ⟨r, hr⟩ : ∃ r, q - 1 = r := ⟨_, rfl⟩
      rw [hr] at h
      have e1 : A * q = A * r + A := by rw [← hr, Int.mul_sub]; omega
      rw [e1] at q1
      rw [sq_sub] at hlo
      rw [sq_add] at hhi
      -- A - r is far from zero
      have e2 := sq_sub A r
      rcases Int.lt_or_le (A - D) r with c1 | c1
      · rcases Int.lt_or_le r (A + D) with c2 | c2
        · -- |A - r| < D
          have c3 : (A - r) * (A - r) < D * D := by
            rcases Int.le_total r A with c4 | c4
            · have := sq_le (a := A - r) (b := D - 1) (by omega) (by omega)
              rw [sq_sub D 1] at this
              omega
            · have := sq_le (a := r - A) (b := D - 1) (by omega) (by omega)
              rw [sq_sub D 1] at this
              have e3 : (r - A) * (r - A) = (A - r) * (A - r) := by rw [sq_sub, sq_sub, Int.mul_comm r A]; omega
              omega
          omega
        · have := Int.mul_le_mul_of_nonneg_left c2 (Int.le_of_lt hA)
          rw [Int.mul_add] at this
          omega
      · have := sq_le (a := r) (b := A - D) (by omega) c1
        rw [sq_sub] at this
        omega
  · rcases Int.lt_or_le M ((q + 1) * (q + 1)) with h | h
    · exact h
    · exfalso
      have e := sq_nonneg (A - (q + 1))
      rw [sq_sub] at e
      omega

theorem mul4 (a b c d : Int) : a * b * (c * d) = a * c * (b * d) := by rw [Int.mul_assoc, Int.mul_left_comm b, ← Int.mul_assoc]

/-- a is the root of the leading bits of n, up to one -/
def Near (n c d a : Nat) : Prop := d ≤ c ∧ 2 ^ d ≤ a ∧ ((a : Int) - 1) * (a - 1) < (n / 4 ^ (c - d) : Nat) ∧ ((n / 4 ^ (c - d) : Nat) : Int) < (a + 1) * (a + 1)

theorem four_pow (k : Nat) : 4 ^ k = 2 ^ k * 2 ^ k := by rw [← Nat.mul_pow]

theorem Near.start {n c : Nat} (h0 : 4 ^ c ≤ n) (h1 : n < 4 ^ (c + 1)) : Near n c 0 1 := by
  have hp : 0 < 4 ^ c := Nat.pos_of_ne_zero (by simp)
  have e1 : 1 ≤ n / 4 ^ c := (Nat.le_div_iff_mul_le hp).2 (by omega)
  have e2 : n / 4 ^ c < 4 := by rw [Nat.div_lt_iff_lt_mul hp, Nat.mul_comm, ← Nat.pow_succ]; exact h1
  refine ⟨Nat.zero_le _, by simp, ?_, ?_⟩ <;> simp only [Nat.sub_zero] <;> omega

theorem Near.step {n c e d k a : Nat} (h : Near n c e a) (h0 : 4 ^ c ≤ n) (hd : d = e + k + 1) (hke : k ≤ e) (hdc : d ≤ c) :
    Near n c d (a * 2 ^ k + n / 2 ^ (2 * c - e - d + 1) / a) := by
  obtain ⟨h1, h2, h3, h4⟩ := h
  have ha : 0 < a := Nat.lt_of_lt_of_le (Nat.pos_of_ne_zero (by simp)) h2
  have hpk : 0 < 2 ^ k := Nat.pos_of_ne_zero (by simp)
  obtain ⟨M, hM⟩ : ∃ M, n / 4 ^ (c - d) = M := ⟨_, rfl⟩
  have eN : n / 4 ^ (c - e) = M / (2 ^ (k + 1) * 2 ^ (k + 1)) := by
    rw [← hM, Nat.div_div_eq_div_mul, ← four_pow, ← Nat.pow_add, show c - d + (k + 1) = c - e by omega]
  have eq : n / 2 ^ (2 * c - e - d + 1) / a = M / (2 * (a * 2 ^ (k + 1))) := by
    rw [← hM, four_pow, Nat.div_div_eq_div_mul, Nat.div_div_eq_div_mul]
    congr 1
    rw [show 2 * c - e - d + 1 = (c - d) + (c - d) + (k + 1) + 1 by omega, Nat.pow_succ, Nat.pow_add, Nat.pow_add, Nat.mul_assoc _ 2, Nat.mul_assoc, Nat.mul_comm a, Nat.mul_left_comm 2, ← Nat.mul_assoc (2 ^ (k + 1))]
  have hMge : 4 ^ d ≤ M := by
    rw [← hM, Nat.le_div_iff_mul_le (Nat.pos_of_ne_zero (by simp)), ← Nat.pow_add, show d + (c - d) = c by omega]
    exact h0
  rw [eN] at h3 h4
  unfold Near
  rw [eq, hM]
  have hD2 : 2 ^ (k + 1) ≤ 2 * a := by
    have := Nat.pow_le_pow_right (show 0 < 2 by omega) hke
    rw [Nat.pow_succ]; omega
  have hA : a * 2 ^ (k + 1) = 2 * (a * 2 ^ k) := by rw [Nat.pow_succ, ← Nat.mul_assoc, Nat.mul_comm]
  have hDpos : 0 < 2 ^ (k + 1) := Nat.pos_of_ne_zero (by simp)
  generalize hDD : 2 ^ (k + 1) = D at *
  generalize hHH : a * 2 ^ k = H at *
  have hHpos : 0 < H := by rw [← hHH]; exact Nat.mul_pos ha hpk
  have hdm := Nat.div_add_mod M (2 * (a * D))
  have hml := Nat.mod_lt M (show 0 < 2 * (a * D) by rw [hA]; omega)
  have hdm2 := Nat.div_add_mod M (D * D)
  have hml2 := Nat.mod_lt M (Nat.mul_pos hDpos hDpos)
  generalize M / (D * D) = N at *
  generalize M % (D * D) = r2 at *
  generalize M % (2 * (a * D)) = r at *
  generalize M / (2 * (a * D)) = q at *
  have hDN : D * D ≤ 2 * (a * D) := by have := Nat.mul_le_mul_right D hD2; rwa [Nat.mul_assoc] at this
  have eL : ((a * D : Nat) : Int) - D = ((a : Int) - 1) * D := by rw [Int.sub_mul, Int.one_mul, Int.natCast_mul]
  have eH : ((a * D : Nat) : Int) + D = ((a : Int) + 1) * D := by rw [Int.add_mul, Int.one_mul, Int.natCast_mul]
  have hD2 : ((D * D : Nat) : Int) = (D : Int) * D := Int.natCast_mul _ _
  have hDp2 : 0 < D * D := Nat.mul_pos hDpos hDpos
  have hlo : (((a * D : Nat) : Int) - D) * (((a * D : Nat) : Int) - D) < M := by
    rw [eL, mul4]
    have h5 := Int.mul_le_mul_of_nonneg_right (show ((a : Int) - 1) * (a - 1) + 1 ≤ N by omega) (show (0 : Int) ≤ (D : Int) * D by omega)
    rw [Int.add_mul, Int.one_mul] at h5
    have h6 : ((N : Int) * ((D : Int) * D)) ≤ M := by
      have h7 : N * (D * D) ≤ M := by rw [Nat.mul_comm]; omega
      rw [← hD2, ← Int.natCast_mul]; omega
    omega
  have hhi : (M : Int) < (((a * D : Nat) : Int) + D) * (((a * D : Nat) : Int) + D) := by
    rw [eH, mul4]
    have h5 := Int.mul_le_mul_of_nonneg_right (show (N : Int) + 1 ≤ ((a : Int) + 1) * (a + 1) by omega) (show (0 : Int) ≤ (D : Int) * D by omega)
    rw [Int.add_mul, Int.one_mul] at h5
    have h6 : (M : Int) < N * ((D : Int) * D) + (D : Int) * D := by
      have h7 : M < N * (D * D) + D * D := by rw [Nat.mul_comm N]; omega
      rw [← hD2, ← Int.natCast_mul]; omega
    omega
  generalize a * D = A at *
  have hAA : A * A = 2 * (A * H) := by
    conv => lhs; arg 2; rw [hA]
    rw [Nat.mul_left_comm]
  rw [Nat.mul_assoc] at hdm
  have e1 : A * (H + q) = A * H + A * q := Nat.mul_add _ _ _
  have e2 : A * (H + q + 1) = A * (H + q) + A := by rw [Nat.mul_add, Nat.mul_one]
  have q1 : 2 * (A * (H + q)) ≤ A * A + M := by omega
  have q2 : A * A + M < 2 * (A * (H + q + 1)) := by omega
  have cA : ((A * A : Nat) : Int) = (A : Int) * A := Int.natCast_mul _ _
  have cq : ((A * (H + q) : Nat) : Int) = (A : Int) * ((H + q : Nat) : Int) := Int.natCast_mul _ _
  have cq1 : ((A * (H + q + 1) : Nat) : Int) = (A : Int) * (((H + q : Nat) : Int) + 1) := Int.natCast_mul _ _
  have key := newton_step (A := (A : Int)) (D := (D : Int)) (M := (M : Int)) (q := ((H + q : Nat) : Int)) (by omega) (by omega) (by omega) hlo hhi (by omega) (by omega) (by omega)
  refine ⟨hdc, ?_, key.1, key.2⟩
  rcases Nat.lt_or_ge (H + q) (2 ^ d) with h | h
  · exfalso
    have h5 : (H + q + 1) * (H + q + 1) ≤ 2 ^ d * 2 ^ d := Nat.mul_le_mul h h
    rw [← four_pow] at h5
    have c5 : (((H + q + 1) * (H + q + 1) : Nat) : Int) = (((H + q : Nat) : Int) + 1) * (((H + q : Nat) : Int) + 1) := Int.natCast_mul _ _
    have := key.2
    omega
  · exact h

/-- the root, behind the last step -/
theorem Near.finish {n c a : Nat} (h : Near n c c a) : (if n < a * a then a - 1 else a) * (if n < a * a then a - 1 else a) ≤ n ∧ n < ((if n < a * a then a - 1 else a) + 1) * ((if n < a * a then a - 1 else a) + 1) := by
  obtain ⟨_, h2, h3, h4⟩ := h
  have ha : 0 < a := Nat.lt_of_lt_of_le (Nat.pos_of_ne_zero (by simp)) h2
  rw [Nat.sub_self, Nat.pow_zero, Nat.div_one] at h3 h4
  have c1 : (((a - 1) * (a - 1) : Nat) : Int) = ((a : Int) - 1) * (a - 1) := by rw [Int.natCast_mul, Int.ofNat_sub ha]; rfl
  have c2 : (((a + 1) * (a + 1) : Nat) : Int) = ((a : Int) + 1) * (a + 1) := Int.natCast_mul _ _
  split
  · refine ⟨by omega, ?_⟩
    rw [Nat.sub_add_cancel ha]
    assumption
  · exact ⟨by omega, by omega⟩

/-- one more bit of c -/
theorem halves (c j : Nat) (h : 1 ≤ c / 2 ^ j) : c / 2 ^ j = c / 2 ^ (j + 1) + (c / 2 ^ j - c / 2 ^ (j + 1) - 1) + 1 ∧ c / 2 ^ j - c / 2 ^ (j + 1) - 1 ≤ c / 2 ^ (j + 1) ∧ c / 2 ^ j ≤ c := by
  have e : c / 2 ^ (j + 1) = c / 2 ^ j / 2 := by rw [Nat.pow_succ, Nat.div_div_eq_div_mul]
  have := Nat.div_le_self c (2 ^ j)
  rw [e]
  omega
end Go.Proofs.YtlpclahlolhjfaaGreatDoor
