import Derived.Test.YtecaaklbhhjcjaaGreatDoorIRelU5
import Derived.Test.YtecaaklbhhjcjaaGreatDoorIRelU4
import Derived.Deep.RegionHeld3
import Derived.Laws.Bits64
import Derived.Deep.QuietTactic
import Derived.BigQuiet
import Derived.Test.YtecaaklbhhjcjaaGreatDoorIRelU0
namespace Go.Proofs.YtecaaklbhhjcjaaGreatDoor
open Go.RowKit

theorem Bg.only_box {w w' : World} {g : Nat} {nb mb : Bool} {ao ro : Option Addr} {n cap k cr : Nat} {x : Int} (h : Bg w mb ro k cr x) (hx : Box w g nb ao n cap) (ho : Only g w w') : Bg w' mb ro k cr x := by
  obtain ⟨⟨zs, h1, h2⟩, h3⟩ := h
  exact ⟨⟨zs, h1.only_box hx ho, h2⟩, h3⟩
theorem Bn.only_box {w w' : World} {g : Nat} {nb mb : Bool} {ao ro : Option Addr} {n cap k cr : Nat} {x : Int} (h : Bn w mb ro k cr x) (hx : Box w g nb ao n cap) (ho : Only g w w') : Bn w' mb ro k cr x :=
  ⟨h.neg, h.sl.only_box hx ho⟩

end Go.Proofs.YtecaaklbhhjcjaaGreatDoor

namespace Go.Proofs.YtecaaklbhhjcjaaGreatDoor
open Go.RowKit

set_option maxRecDepth 100000 in
set_option maxHeartbeats 2000000 in
theorem norm_any (nb : Bool) (ao : Option Addr) (n cap : Nat) (x : Int) (w : World) (h : Bg w nb ao n cap x) :
    Calls Tryz.prog 227 #[.agg #[.bool nb, .slice ao n cap]] w fun e w' => ∃ nr ro k cr, e = .returned (.agg #[.bool nr, .slice ro k cr]) ∧ Bn w' nr ro k cr x ∧ Below w.heap.size w w' := by
  obtain ⟨⟨zs, hs, hx⟩, hsm⟩ := h
  have hx' := Lib.hid hx; clear hx
  go_enter Tryz.func227, Tryz.ntmps227
  go_wp2_with fail
  obtain ⟨W, hW, hB, hbx, hrx, hz⟩ := boxes1 w nb ao n cap
  rw [← hW]
  clear hW
  have hs0 := hs.below hB
  generalize hBe : w.heap.size = B at *
  have HBe := Lib.hid hBe; clear hBe
  have hBelow := Lib.hid hB
  clear hs hB
  have k0 := hbx.c0
  have k1 := hbx.c1
  go_region_held3 (fun w' => w'.cell? ⟨B, 0, none⟩ = some (.bool nb) ∧ w'.cell? ⟨B, 1, none⟩ = some (.slice ao n cap))
    (first | exact ⟨k0, k1⟩ | exact ⟨x2.c0, x2.c1⟩ | exact ⟨x3.c0, x3.c1⟩ | (refine ⟨?_, ?_⟩ <;> go_simp))
    (first
      | (go_at_call 58; refine (trim_sl ao n cap zs _ (by exact hs0.below ((Below.refl _ _).drew))).mono ?_; rintro e w1 ⟨k, rfl, hs1, rfl⟩)
      | (go_at_call 128; refine (clone_any _ _ _ _ _ hs1).mono ?_; rintro e w2 ⟨rfl, hb2, hw2⟩; have x2 := (hbx.below ((Below.refl _ _).drew)).below hw2; have y2 := (hrx.below ((Below.refl _ _).drew)).below hw2)
      | (go_at_call 62; refine (signed_any _ _ _ _ _ _ (hb2.sl (Wf.limbs _) hs1.len hs1.big (Nat.le_refl _))).mono ?_; rintro e w3 ⟨ro, cr, rfl, hs3, hw3⟩; have x3 := x2.below hw3; have y3 := y2.below hw3; have q0 := y3.c0; have q1 := y3.c1; have q2 := y3.f 0; have q3 := y3.f 1; have e0 := x3.c0; have e1 := x3.c1))
  have z3 := y3.stored (nb && decide (0 < k)) ro k cr
  have z0 := z3.c0
  have z1 := z3.c1
  go_wp2
  refine bodyPost_ret (v := .agg #[.bool (nb && decide (0 < k)), .slice ro k cr]) (by simp [results, Tryz.results227, go_sem, z0, z1]) rfl ⟨_, ro, k, cr, rfl, ?_, ?_⟩
  · refine bn_of (hs3.only_box y3 (only_set2 _ _ _ _)) rfl ?_
    rw [hx'.out, Int.toNat_of_nonneg (num_nonneg hs0.wf)]; rfl
  · obtain ⟨b1, l1⟩ := bnext hBelow.out (by omega) (Below.refl _ W).drew
    obtain ⟨b2, l2⟩ := bnext b1 l1 hw2
    obtain ⟨b3, l3⟩ := bnext b2 l2 hw3
    rw [HBe.out]
    exact b3.trans ((only_set2 _ _ _ _).below (by omega))
end Go.Proofs.YtecaaklbhhjcjaaGreatDoor

namespace Go.Proofs.YtecaaklbhhjcjaaGreatDoor
open Go.RowKit

theorem num_two (v : Int) : num [v % 4294967296, v / 4294967296] = v := by simp only [num]; omega

set_option maxRecDepth 100000 in
set_option maxHeartbeats 1000000 in
theorem fromWord_any (v : Int) (w : World) (h0 : 0 ≤ v) (h1 : v ≤ 18446744073709551615) :
    Calls Tryz.prog 115 #[.int .u64 v] w fun e w' => ∃ ro k cr, e = .returned (.slice ro k cr) ∧ Sl w' ro k cr (limbs v.toNat) ∧ Below w.heap.size w w' := by
  go_enter Tryz.func115, Tryz.ntmps115
  go_wp2_with fail
  have hb : Blk (w.alloc (.cells #[.int .u32 (v % 4294967296), .int .u32 (v / 4294967296)] 63)) w.heap.size [v % 4294967296, v / 4294967296] := heap_alloc_new w _
  refine (trim_sl _ _ _ _ _ (hb.sl (n := 2) (Wf.cons (by omega) (Wf.cons (by omega) Wf.nil)) rfl (by omega) (Nat.le_refl _))).mono ?_
  rintro e w4 ⟨k, rfl, hs, rfl⟩
  rw [num_two] at hs
  go_wp2
  go_ret
  exact ⟨_, k, _, rfl, hs, (Below.refl _ w).alloc (Nat.le_refl _) _⟩

set_option maxRecDepth 100000 in
set_option maxHeartbeats 1000000 in
theorem fromInt_any (x : Int) (w : World) (h0 : -9223372036854775808 ≤ x) (h1 : x ≤ 9223372036854775807) :
    Calls Tryz.prog 53 #[.int .i64 x] w fun e w' => ∃ nr ro k cr, e = .returned (.agg #[.bool nr, .slice ro k cr]) ∧ Bn w' nr ro k cr x ∧ Below w.heap.size w w' := by
  by_cases hx : x < 0
  · go_enter Tryz.func53, Tryz.ntmps53
    go_wp2_with fail
    rw [show IntKind.u64.wrap (-IntKind.u64.wrap x) = -x from by rw [IntKind.wrap_u64, IntKind.wrap_u64]; omega]
    have hrx := Box.new w false none 0 0
    have hB := (Below.refl w.heap.size w).alloc (Nat.le_refl _) (.cells #[.bool false, .slice none 0 0] 24)
    have hz : w.heap.size + 1 ≤ (w.alloc (.cells #[.bool false, .slice none 0 0] 24)).heap.size := by simp
    generalize w.alloc (.cells #[.bool false, .slice none 0 0] 24) = W at *
    refine (fromWord_any (-x) W (by omega) (by omega)).mono ?_
    rintro e w2 ⟨ro, k, cr, rfl, hs, hw2⟩
    have y2 := hrx.below hw2
    go_wp2_with fail
    refine (signed_any _ _ _ _ _ _ hs).mono ?_
    rintro e w3 ⟨ro', cr', rfl, hs3, hw3⟩
    have y3 := y2.below hw3
    obtain ⟨b2, l2⟩ := bnext hB (by omega) hw2
    obtain ⟨b3, l3⟩ := bnext b2 l2 hw3
    generalize hBe : w.heap.size = B at *
    have HBe := Lib.hid hBe; clear hBe
    have z2 := hw2.size
    have z3' := hw3.size
    clear hrx hB hw2 hw3 y2 hs b2 l2
    have q0 := y3.c0
    have q1 := y3.c1
    have q2 := y3.f 0
    have q3 := y3.f 1
    have z3 := y3.stored (true && decide (0 < k)) ro' k cr'
    have z0 := z3.c0
    have z1 := z3.c1
    simp only [Bool.true_and] at z0 z1
    go_wp2
    refine bodyPost_ret (v := .agg #[.bool (true && decide (0 < k)), .slice ro' k cr']) (by simp [results, Tryz.results53, go_sem, z0, z1]) rfl ⟨_, ro', k, cr', rfl, ?_, ?_⟩
    · refine bn_of (nb := true) (Sl.only_box hs3 y3 (only_set2 _ _ _ _)) rfl ?_
      simp; omega
    · rw [HBe.out]
      exact b3.trans ((only_set2 _ _ _ _).below (by omega))
  · go_enter Tryz.func53, Tryz.ntmps53
    go_wp2_with fail
    have hrx := Box.new w false none 0 0
    have hB := (Below.refl w.heap.size w).alloc (Nat.le_refl _) (.cells #[.bool false, .slice none 0 0] 24)
    have hz : w.heap.size + 1 ≤ (w.alloc (.cells #[.bool false, .slice none 0 0] 24)).heap.size := by simp
    generalize w.alloc (.cells #[.bool false, .slice none 0 0] 24) = W at *
    refine (fromWord_any x W (by omega) (by omega)).mono ?_
    rintro e w2 ⟨ro, k, cr, rfl, hs, hw2⟩
    have y2 := hrx.below hw2
    go_wp2_with fail
    refine (signed_any _ _ _ _ _ _ hs).mono ?_
    rintro e w3 ⟨ro', cr', rfl, hs3, hw3⟩
    have y3 := y2.below hw3
    obtain ⟨b2, l2⟩ := bnext hB (by omega) hw2
    obtain ⟨b3, l3⟩ := bnext b2 l2 hw3
    generalize hBe : w.heap.size = B at *
    have HBe := Lib.hid hBe; clear hBe
    have z2 := hw2.size
    have z3' := hw3.size
    clear hrx hB hw2 hw3 y2 hs b2 l2
    have q0 := y3.c0
    have q1 := y3.c1
    have q2 := y3.f 0
    have q3 := y3.f 1
    have z3 := y3.stored (false && decide (0 < k)) ro' k cr'
    have z0 := z3.c0
    have z1 := z3.c1
    simp only [Bool.false_and] at z0 z1
    go_wp2
    refine bodyPost_ret (v := .agg #[.bool (false && decide (0 < k)), .slice ro' k cr']) (by simp [results, Tryz.results53, go_sem, z0, z1]) rfl ⟨_, ro', k, cr', rfl, ?_, ?_⟩
    · refine bn_of (nb := false) (Sl.only_box hs3 y3 (only_set2 _ _ _ _)) rfl ?_
      simp; omega
    · rw [HBe.out]
      exact b3.trans ((only_set2 _ _ _ _).below (by omega))
end Go.Proofs.YtecaaklbhhjcjaaGreatDoor

namespace Go.Proofs.YtecaaklbhhjcjaaGreatDoor
open Go.RowKit

/-- later, with all that was there as it was -/
def Ext (w w' : World) : Prop := Below w.heap.size w w'
theorem Ext.refl (w : World) : Ext w w := Below.refl _ _
theorem Ext.trans {a b c : World} (h : Ext a b) (k : Ext b c) : Ext a c := Below.trans h (Below.mono k h.size)

/-- a value, the number that it stands for, how many limbs it has at most, is it normalized -/
structure Ent where
  v : Value
  x : Int
  N : Nat
  c : Bool

def Ent.Ok (w : World) (p : Ent) : Prop :=
  ∃ nb ao n ca, p.v = .agg #[.bool nb, .slice ao n ca] ∧ Bg w nb ao n ca p.x ∧ n ≤ p.N ∧ p.x.natAbs < 4294967296 ^ p.N ∧ (p.c = true → Bn w nb ao n ca p.x)

theorem Ent.Ok.ext {w w' : World} {p : Ent} (h : p.Ok w) (he : Ext w w') : p.Ok w' := by
  obtain ⟨nb, ao, n, ca, h1, h2, h3, h4, h5⟩ := h
  exact ⟨nb, ao, n, ca, h1, h2.below he, h3, h4, fun e => (h5 e).below he⟩

/-- what is at hand -/
structure St (W w : World) (L : List Ent) : Prop where
  ext : Ext W w
  bag : ∀ p ∈ L, p.Ok w

theorem St.step {W w w' : World} {L : List Ent} (h : St W w L) (he : Ext w w') : St W w' L := ⟨h.ext.trans he, fun p hp => (h.bag p hp).ext he⟩
theorem St.drew {W w : World} {L : List Ent} (h : St W w L) : St W w.drew L := h.step (Below.refl _ _).drew
theorem St.drewN {W w : World} {L : List Ent} (h : St W w L) (q : Nat) : St W (w.drewN q) L := h.step (below_drewN (Below.refl _ _) q)

theorem len_of_lt {x : Int} {N : Nat} (h : x.natAbs < 4294967296 ^ N) : (limbs x.natAbs).length ≤ N := (limbs_len_le _ _).2 h

theorem pow_le {a b : Nat} (h : a ≤ b) : 4294967296 ^ a ≤ 4294967296 ^ b := Nat.pow_le_pow_right (by omega) h

theorem abs_add {x y : Int} {N M : Nat} (hx : x.natAbs < 4294967296 ^ N) (hy : y.natAbs < 4294967296 ^ M) : (x + y).natAbs < 4294967296 ^ (max N M + 1) := by
  have h1 := Nat.lt_of_lt_of_le hx (pow_le (Nat.le_max_left N M))
  have h2 := Nat.lt_of_lt_of_le hy (pow_le (Nat.le_max_right N M))
  have h3 := Int.natAbs_add_le x y
  rw [Nat.pow_succ]
  omega
theorem abs_sub {x y : Int} {N M : Nat} (hx : x.natAbs < 4294967296 ^ N) (hy : y.natAbs < 4294967296 ^ M) : (x - y).natAbs < 4294967296 ^ (max N M + 1) := by
  have := abs_add hx (y := -y) (M := M) (by rw [Int.natAbs_neg]; exact hy)
  rwa [← Int.sub_eq_add_neg] at this
section
variable {W w : World} {L : List Ent} {u v : Value} {x y : Int} {N M : Nat} {c d : Bool}

end

/-- a small raw argument -/
theorem ok_raw {w : World} {nb : Bool} {ao : Option Addr} {n ca : Nat} {zs : List Int} (h : Sl w ao n ca zs) (N : Nat) (hn : n ≤ N) (hN : N ≤ 100000) : Ent.Ok w ⟨.agg #[.bool nb, .slice ao n ca], sgd nb zs, N, false⟩ := by
  refine ⟨nb, ao, n, ca, rfl, ⟨⟨zs, h, rfl⟩, by omega⟩, hn, ?_, fun e => by cases e⟩
  simp only
  rw [sgd_natAbs h.wf]
  have h1 := num_lt h.wf
  have h2 := num_nonneg h.wf
  rw [h.len] at h1
  have h3 : ((num zs).toNat : Int) < ((4294967296 ^ n : Nat) : Int) := by rw [Int.toNat_of_nonneg h2, Int.natCast_pow]; exact h1
  exact Nat.lt_of_lt_of_le (Int.ofNat_lt.1 h3) (pow_le hn)

end Go.Proofs.YtecaaklbhhjcjaaGreatDoor

namespace Go.Proofs.YtecaaklbhhjcjaaGreatDoor

theorem lt_or_ge_int (a b : Int) : a < b ∨ b ≤ a := by omega

/-- the dividend u and the divisor v by their leading limbs: B is the weight of what is below -/
structure Lead (u v top w2 f s B : Int) : Prop where
  bpos : 0 < B
  u0 : (top * 4294967296 + w2) * B ≤ u
  u1 : u < (top * 4294967296 + w2 + 1) * B
  v0 : (f * 4294967296 + s) * B ≤ v
  v1 : v < (f * 4294967296 + s + 1) * B
  t0 : 0 ≤ top
  w0 : 0 ≤ w2
  w1 : w2 < 4294967296
  s0 : 0 ≤ s
  s1 : s < 4294967296
  f0 : 2147483648 ≤ f
  f1 : f < 4294967296
  uv : u < v * 4294967296

/-- q is not too small, and r is what it leaves of the first limbs -/
structure Est (u v top f q r : Int) : Prop where
  qr : q * f + r = top
  r0 : 0 ≤ r
  q0 : 0 ≤ q
  ge : u / v ≤ q

theorem Lead.vpos {u v top w2 f s B : Int} (h : Lead u v top w2 f s B) : 0 < v := by
  have h1 : 0 < (f * 4294967296 + s) * B := Int.mul_pos (by have := h.f0; have := h.s0; omega) h.bpos
  have := h.v0
  omega

theorem Lead.unonneg {u v top w2 f s B : Int} (h : Lead u v top w2 f s B) : 0 ≤ u := by
  have h1 : 0 ≤ (top * 4294967296 + w2) * B := Int.mul_nonneg (by have := h.t0; have := h.w0; omega) (Int.le_of_lt h.bpos)
  have := h.u0
  omega

theorem Lead.qlt {u v top w2 f s B : Int} (h : Lead u v top w2 f s B) : u / v < 4294967296 :=
  Int.ediv_lt_of_lt_mul h.vpos (by rw [Int.mul_comm]; exact h.uv)

theorem Lead.start {u v top w2 f s B : Int} (h : Lead u v top w2 f s B) : Est u v top f (top / f) (top % f) := by
  have hf : 0 < f := by have := h.f0; omega
  refine ⟨by rw [Int.mul_comm]; exact Int.mul_ediv_add_emod top f, Int.emod_nonneg _ (by omega), Int.ediv_nonneg h.t0 (by omega), ?_⟩
  rw [Int.le_ediv_iff_mul_le hf]
  have hQ : u / v * v ≤ u := Int.ediv_mul_le u (by have := h.vpos; omega)
  have hQ0 : 0 ≤ u / v := Int.ediv_nonneg h.unonneg (Int.le_of_lt h.vpos)
  generalize u / v = Q at *
  rcases lt_or_ge_int top (Q * f) with hlt | hle
  · exfalso
    -- Q v ≥ Q f R B ≥ (top + 1) R B > u
    have a1 : (top + 1) * (4294967296 * B) ≤ Q * f * (4294967296 * B) := Int.mul_le_mul_of_nonneg_right (by omega) (by have := h.bpos; omega)
    have a2 : Q * ((f * 4294967296 + s) * B) ≤ Q * v := Int.mul_le_mul_of_nonneg_left h.v0 hQ0
    have a3 : Q * ((f * 4294967296 + s) * B) = Q * f * (4294967296 * B) + Q * (s * B) := by
      rw [Int.add_mul, Int.mul_add, Int.mul_assoc f, ← Int.mul_assoc Q f]
    have a4 : 0 ≤ Q * (s * B) := Int.mul_nonneg hQ0 (Int.mul_nonneg h.s0 (Int.le_of_lt h.bpos))
    have a5 : (top * 4294967296 + w2 + 1) * B ≤ (top + 1) * (4294967296 * B) := by
      rw [← Int.mul_assoc]
      exact Int.mul_le_mul_of_nonneg_right (by have := h.w1; omega) (Int.le_of_lt h.bpos)
    have := h.u1
    omega
  · exact hle

theorem Lead.lower {u v top w2 f s B q r : Int} (h : Lead u v top w2 f s B) (e : Est u v top f q r) (hc : 4294967295 < q ∨ r * 4294967296 + w2 < q * s) : u / v ≤ q - 1 := by
  rcases hc with hc | hc
  · have := h.qlt; omega
  · have hge := e.ge
    have hQ : u / v * v ≤ u := Int.ediv_mul_le u (by have := h.vpos; omega)
    rcases lt_or_ge_int (u / v) q with h1 | h1
    · omega
    · exfalso
      have hq : u / v = q := by omega
      rw [hq] at hQ
      have a2 : q * ((f * 4294967296 + s) * B) ≤ q * v := Int.mul_le_mul_of_nonneg_left h.v0 e.q0
      have a3 : q * ((f * 4294967296 + s) * B) = (q * f * 4294967296 + q * s) * B := by
        rw [← Int.mul_assoc, Int.mul_add, ← Int.mul_assoc q f]
      have a4 : (top * 4294967296 + w2 + 1) * B ≤ (q * f * 4294967296 + q * s) * B := by
        refine Int.mul_le_mul_of_nonneg_right ?_ (Int.le_of_lt h.bpos)
        have := e.qr
        omega
      have := h.u1
      omega

theorem Lead.step {u v top w2 f s B q r : Int} (h : Lead u v top w2 f s B) (e : Est u v top f q r) (hc : 4294967295 < q ∨ r * 4294967296 + w2 < q * s) : Est u v top f (q - 1) (r + f) := by
  have h1 := h.lower e hc
  have hQ0 : 0 ≤ u / v := Int.ediv_nonneg h.unonneg (Int.le_of_lt h.vpos)
  refine ⟨?_, by have := e.r0; have := h.f0; omega, by omega, h1⟩
  have := e.qr
  rw [Int.sub_mul]
  omega

theorem Lead.out {u v top w2 f s B q r : Int} (h : Lead u v top w2 f s B) (e : Est u v top f q r) (hc : 4294967295 < r ∨ (q ≤ 4294967295 ∧ q * s ≤ r * 4294967296 + w2)) : q ≤ 4294967295 ∧ q ≤ u / v + 1 := by
  have hv := h.vpos
  -- the first limbs of u are less than those of v, times the base
  have htop : top ≤ f * 4294967296 + 4294967295 := by
    rcases lt_or_ge_int (f * 4294967296 + 4294967295) top with h1 | h1
    · exfalso
      have a1 : (f * 4294967296 + s + 1) * B * 4294967296 ≤ (top * 4294967296 + w2) * B := by
        rw [Int.mul_assoc, Int.mul_comm B, ← Int.mul_assoc]
        exact Int.mul_le_mul_of_nonneg_right (by have := h.s1; have := h.w0; omega) (Int.le_of_lt h.bpos)
      have a2 : v * 4294967296 ≤ (f * 4294967296 + s + 1) * B * 4294967296 := Int.mul_le_mul_of_nonneg_right (Int.le_of_lt h.v1) (by omega)
      have := h.u0
      have := h.uv
      omega
    · exact h1
  have hqr := e.qr
  have hr0 := e.r0
  have hq0 := e.q0
  have hf0 := h.f0
  have hs0 := h.s0
  have hs1 := h.s1
  have hw0 := h.w0
  have hq : q ≤ 4294967295 := by
    rcases hc with hc | hc
    · rcases lt_or_ge_int 4294967295 q with h1 | h1
      · exfalso
        have := Int.mul_le_mul_of_nonneg_right (show 4294967296 ≤ q by omega) (show 0 ≤ f by omega)
        omega
      · exact h1
    · exact hc.1
  refine ⟨hq, ?_⟩
  -- (q - 1) v ≤ u
  suffices hs : (q - 1) * v ≤ u by
    have := (Int.le_ediv_iff_mul_le hv).2 hs
    omega
  rcases lt_or_ge_int q 1 with h1 | h1
  · have : (q - 1) * v ≤ 0 := by
      have := Int.mul_le_mul_of_nonneg_right (show q - 1 ≤ 0 by omega) (Int.le_of_lt hv)
      omega
    have := h.unonneg
    omega
  · have hB := h.bpos
    rcases hc with hc | ⟨_, hc⟩
    · have b1 : (q - 1) * v ≤ (q - 1) * ((f * 4294967296 + s + 1) * B) := Int.mul_le_mul_of_nonneg_left (Int.le_of_lt h.v1) (by omega)
      have b2 : (q - 1) * ((f * 4294967296 + s + 1) * B) = ((q - 1) * (f * 4294967296 + s + 1)) * B := by rw [Int.mul_assoc]
      have b3 : (q - 1) * (f * 4294967296 + s + 1) ≤ top * 4294967296 + w2 := by
        have c1 : (q - 1) * (f * 4294967296 + s + 1) = q * f * 4294967296 - f * 4294967296 + (q - 1) * (s + 1) := by
          rw [Int.add_assoc, Int.mul_add, ← Int.mul_assoc, Int.sub_mul, Int.one_mul, Int.sub_mul]
        have c2 : (q - 1) * (s + 1) ≤ 4294967294 * (s + 1) := Int.mul_le_mul_of_nonneg_right (by omega) (by omega)
        omega
      have b4 := Int.mul_le_mul_of_nonneg_right b3 (Int.le_of_lt hB)
      have := h.u0
      omega
    · have b1 : q * v ≤ q * ((f * 4294967296 + s + 1) * B) := Int.mul_le_mul_of_nonneg_left (Int.le_of_lt h.v1) (by omega)
      have b2 : q * ((f * 4294967296 + s + 1) * B) = (q * f * 4294967296 + q * s) * B + q * B := by
        rw [← Int.mul_assoc, Int.mul_add, Int.mul_add, Int.mul_one, ← Int.mul_assoc q f, Int.add_mul (_ + _) q B]
      have b3 : (q * f * 4294967296 + q * s) * B ≤ (top * 4294967296 + w2) * B := by
        refine Int.mul_le_mul_of_nonneg_right ?_ (Int.le_of_lt hB)
        omega
      have b4 : q * B ≤ (f * 4294967296 + s) * B := Int.mul_le_mul_of_nonneg_right (by omega) (Int.le_of_lt hB)
      have := h.u0
      have := h.v0
      have e1 : (q - 1) * v = q * v - v := by rw [Int.sub_mul, Int.one_mul]
      omega

end Go.Proofs.YtecaaklbhhjcjaaGreatDoor
