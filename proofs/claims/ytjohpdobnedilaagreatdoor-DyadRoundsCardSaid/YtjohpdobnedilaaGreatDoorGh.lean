/- Plain facts on the integer square root by Newton steps of growing precision. No program stands here. -/
import Derived.Test.YtjohpdobnedilaaGreatDoorGa
import Derived.Test.YtjohpdobnedilaaGreatDoorGf
import Derived.Test.YtjohpdobnedilaaGreatDoorGd
import Derived.Test.YtjohpdobnedilaaGreatDoorGc
import Derived.Test.YtjohpdobnedilaaGreatDoorGe
namespace Go.Proofs.YtjohpdobnedilaaGreatDoor

theorem sq_nonneg (x : Int) : 0 ≤ x * x := by
  rcases Int.le_total 0 x with h | h
  · exact Int.mul_nonneg h h
  · exact Int.mul_nonneg_of_nonpos_of_nonpos h h

theorem sq_sub (a b : Int) : (a - b) * (a - b) = a * a - 2 * (a * b) + b * b := by
  rw [Int.sub_mul, Int.mul_sub, Int.mul_sub, Int.mul_comm b a]; omega
theorem sq_add (a b : Int) : (a + b) * (a + b) = a * a + 2 * (a * b) + b * b := by
  rw [Int.add_mul, Int.mul_add, Int.mul_add, Int.mul_comm b a]; omega
theorem sq_le {a b : Int} (h0 : 0 ≤ a) (h : a ≤ b) : a * a ≤ b * b := Int.mul_le_mul h h h0 (by omega)

/-- one step: from an A that is near the root of M to the half of A + M / A -/
theorem newton_step {A D M q : Int} (hA : 0 < A) (hD : 0 < D) (h2 : D * D ≤ 2 * A) (hlo : (A - D) * (A - D) < M) (hhi : M < (A + D) * (A + D))
    (q1 : 2 * (A * q) ≤ A * A + M) (q2 : A * A + M < 2 * (A * (q + 1))) (hq : 1 ≤ q) : (q - 1) * (q - 1) < M ∧ M < (q + 1) * (q + 1) := by
  constructor
  · rcases Int.lt_or_le ((q - 1) * (q - 1)) M with h | h
    · exact h
    · exfalso
      obtain ⟨r, hr⟩ : ∃ r, q - 1 = r := ⟨_, rfl⟩
      rw [hr] at h
      have e1 : A * q = A * r + A := by rw [← hr, Int.mul_sub]; omega
      rw [e1] at q1
      rw [sq_sub] at hlo
      rw [sq_add] at hhi
      -- A - r is far from zero
      have e2 := sq_sub A r
      rcases Int.lt_or_le (A - D) r with c1 | c1
      · rcases Int.lt_or_le r (A + D) with c2 | c2
        · -- |A - r| < D
          have c3 : (A - r) * (A - r) < D * D := by
            rcases Int.le_total r A with c4 | c4
            · have := sq_le (a := A - r) (b := D - 1) (by omega) (by omega)
              rw [sq_sub D 1] at this
              omega
            · have := sq_le (a := r - A) (b := D - 1) (by omega) (by omega)
              rw [sq_sub D 1] at this
              have e3 : (r - A) * (r - A) = (A - r) * (A - r) := by rw [sq_sub, sq_sub, Int.mul_comm r A]; omega
              omega
          omega
        · have := Int.mul_le_mul_of_nonneg_left c2 (Int.le_of_lt hA)
          rw [Int.mul_add] at this
          omega
      · have := sq_le (a := r) (b := A - D) (by omega) c1
        rw [sq_sub] at this
        omega
  · rcases Int.lt_or_le M ((q + 1) * (q + 1)) with h | h
    · exact h
    · exfalso
      have e := sq_nonneg (A - (q + 1))
      rw [sq_sub] at e
      omega

theorem mul4 (a b c d : Int) : a * b * (c * d) = a * c * (b * d) := by rw [Int.mul_assoc, Int.mul_left_comm b, ← Int.mul_assoc]

/-- a is the root of the leading bits of n, up to one -/
def Near (n c d a : Nat) : Prop := d ≤ c ∧ 2 ^ d ≤ a ∧ ((a : Int) - 1) * (a - 1) < (n / 4 ^ (c - d) : Nat) ∧ ((n / 4 ^ (c - d) : Nat) : Int) < (a + 1) * (a + 1)

theorem four_pow (k : Nat) : 4 ^ k = 2 ^ k * 2 ^ k := by rw [← Nat.mul_pow]

theorem Near.start {n c : Nat} (h0 : 4 ^ c ≤ n) (h1 : n < 4 ^ (c + 1)) : Near n c 0 1 := by
  have hp : 0 < 4 ^ c := Nat.pos_of_ne_zero (by simp)
  have e1 : 1 ≤ n / 4 ^ c := (Nat.le_div_iff_mul_le hp).2 (by omega)
  have e2 : n / 4 ^ c < 4 := by rw [Nat.div_lt_iff_lt_mul hp, Nat.mul_comm, ← Nat.pow_succ]; exact h1
  refine ⟨Nat.zero_le _, by simp, ?_, ?_⟩ <;> simp only [Nat.sub_zero] <;> omega

theorem Near.step {n c e d k a : Nat} (h : Near n c e a) (h0 : 4 ^ c ≤ n) (hd : d = e + k + 1) (hke : k ≤ e) (hdc : d ≤ c) :
    Near n c d (a * 2 ^ k + n / 2 ^ (2 * c - e - d + 1) / a) := by
  obtain ⟨h1, h2, h3, h4⟩ := h
  have ha : 0 < a := Nat.lt_of_lt_of_le (Nat.pos_of_ne_zero (by simp)) h2
  have hpk : 0 < 2 ^ k := Nat.pos_of_ne_zero (by simp)
  obtain ⟨M, hM⟩ : ∃ M, n / 4 ^ (c - d) = M := ⟨_, rfl⟩
  have eN : n / 4 ^ (c - e) = M / (2 ^ (k + 1) * 2 ^ (k + 1)) := by
    rw [← hM, Nat.div_div_eq_div_mul, ← four_pow, ← Nat.pow_add, show c - d + (k + 1) = c - e by omega]
  have eq : n / 2 ^ (2 * c - e - d + 1) / a = M / (2 * (a * 2 ^ (k + 1))) := by
    rw [← hM, four_pow, Nat.div_div_eq_div_mul, Nat.div_div_eq_div_mul]
    congr 1
    rw [show 2 * c - e - d + 1 = (c - d) + (c - d) + (k + 1) + 1 by omega, Nat.pow_succ, Nat.pow_add, Nat.pow_add, Nat.mul_assoc _ 2, Nat.mul_assoc, Nat.mul_comm a, Nat.mul_left_comm 2, ← Nat.mul_assoc (2 ^ (k + 1))]
  have hMge : 4 ^ d ≤ M := by
    rw [← hM, Nat.le_div_iff_mul_le (Nat.pos_of_ne_zero (by simp)), ← Nat.pow_add, show d + (c - d) = c by omega]
    exact h0
  rw [eN] at h3 h4
  unfold Near
  rw [eq, hM]
  have hD2 : 2 ^ (k + 1) ≤ 2 * a := by
    have := Nat.pow_le_pow_right (show 0 < 2 by omega) hke
    rw [Nat.pow_succ]; omega
  have hA : a * 2 ^ (k + 1) = 2 * (a * 2 ^ k) := by rw [Nat.pow_succ, ← Nat.mul_assoc, Nat.mul_comm]
  have hDpos : 0 < 2 ^ (k + 1) := Nat.pos_of_ne_zero (by simp)
  generalize hDD : 2 ^ (k + 1) = D at *
  generalize hHH : a * 2 ^ k = H at *
  have hHpos : 0 < H := by rw [← hHH]; exact Nat.mul_pos ha hpk
  have hdm := Nat.div_add_mod M (2 * (a * D))
  have hml := Nat.mod_lt M (show 0 < 2 * (a * D) by rw [hA]; omega)
  have hdm2 := Nat.div_add_mod M (D * D)
  have hml2 := Nat.mod_lt M (Nat.mul_pos hDpos hDpos)
  generalize M / (D * D) = N at *
  generalize M % (D * D) = r2 at *
  generalize M % (2 * (a * D)) = r at *
  generalize M / (2 * (a * D)) = q at *
  have hDN : D * D ≤ 2 * (a * D) := by have := Nat.mul_le_mul_right D hD2; rwa [Nat.mul_assoc] at this
  have eL : ((a * D : Nat) : Int) - D = ((a : Int) - 1) * D := by rw [Int.sub_mul, Int.one_mul, Int.natCast_mul]
  have eH : ((a * D : Nat) : Int) + D = ((a : Int) + 1) * D := by rw [Int.add_mul, Int.one_mul, Int.natCast_mul]
  have hD2 : ((D * D : Nat) : Int) = (D : Int) * D := Int.natCast_mul _ _
  have hDp2 : 0 < D * D := Nat.mul_pos hDpos hDpos
  have hlo : (((a * D : Nat) : Int) - D) * (((a * D : Nat) : Int) - D) < M := by
    rw [eL, mul4]
    have h5 := Int.mul_le_mul_of_nonneg_right (show ((a : Int) - 1) * (a - 1) + 1 ≤ N by omega) (show (0 : Int) ≤ (D : Int) * D by omega)
    rw [Int.add_mul, Int.one_mul] at h5
    have h6 : ((N : Int) * ((D : Int) * D)) ≤ M := by
      have h7 : N * (D * D) ≤ M := by rw [Nat.mul_comm]; omega
      rw [← hD2, ← Int.natCast_mul]; omega
    omega
  have hhi : (M : Int) < (((a * D : Nat) : Int) + D) * (((a * D : Nat) : Int) + D) := by
    rw [eH, mul4]
    have h5 := Int.mul_le_mul_of_nonneg_right (show (N : Int) + 1 ≤ ((a : Int) + 1) * (a + 1) by omega) (show (0 : Int) ≤ (D : Int) * D by omega)
    rw [Int.add_mul, Int.one_mul] at h5
    have h6 : (M : Int) < N * ((D : Int) * D) + (D : Int) * D := by
      have h7 : M < N * (D * D) + D * D := by rw [Nat.mul_comm N]; omega
      rw [← hD2, ← Int.natCast_mul]; omega
    omega
  generalize a * D = A at *
  have hAA : A * A = 2 * (A * H) := by
    conv => lhs; arg 2; rw [hA]
    rw [Nat.mul_left_comm]
  rw [Nat.mul_assoc] at hdm
  have e1 : A * (H + q) = A * H + A * q := Nat.mul_add _ _ _
  have e2 : A * (H + q + 1) = A * (H + q) + A := by rw [Nat.mul_add, Nat.mul_one]
  have q1 : 2 * (A * (H + q)) ≤ A * A + M := by omega
  have q2 : A * A + M < 2 * (A * (H + q + 1)) := by omega
  have cA : ((A * A : Nat) : Int) = (A : Int) * A := Int.natCast_mul _ _
  have cq : ((A * (H + q) : Nat) : Int) = (A : Int) * ((H + q : Nat) : Int) := Int.natCast_mul _ _
  have cq1 : ((A * (H + q + 1) : Nat) : Int) = (A : Int) * (((H + q : Nat) : Int) + 1) := Int.natCast_mul _ _
  have key := newton_step (A := (A : Int)) (D := (D : Int)) (M := (M : Int)) (q := ((H + q : Nat) : Int)) (by omega) (by omega) (by omega) hlo hhi (by omega) (by omega) (by omega)
  refine ⟨hdc, ?_, key.1, key.2⟩
  rcases Nat.lt_or_ge (H + q) (2 ^ d) with h | h
  · exfalso
    have h5 : (H + q + 1) * (H + q + 1) ≤ 2 ^ d * 2 ^ d := Nat.mul_le_mul h h
    rw [← four_pow] at h5
    have c5 : (((H + q + 1) * (H + q + 1) : Nat) : Int) = (((H + q : Nat) : Int) + 1) * (((H + q : Nat) : Int) + 1) := Int.natCast_mul _ _
    have := key.2
    omega
  · exact h

/-- the root, behind the last step -/
theorem Near.finish {n c a : Nat} (h : Near n c c a) : (if n < a * a then a - 1 else a) * (if n < a * a then a - 1 else a) ≤ n ∧ n < ((if n < a * a then a - 1 else a) + 1) * ((if n < a * a then a - 1 else a) + 1) := by
  obtain ⟨_, h2, h3, h4⟩ := h
  have ha : 0 < a := Nat.lt_of_lt_of_le (Nat.pos_of_ne_zero (by simp)) h2
  rw [Nat.sub_self, Nat.pow_zero, Nat.div_one] at h3 h4
  have c1 : (((a - 1) * (a - 1) : Nat) : Int) = ((a : Int) - 1) * (a - 1) := by rw [Int.natCast_mul, Int.ofNat_sub ha]; rfl
  have c2 : (((a + 1) * (a + 1) : Nat) : Int) = ((a : Int) + 1) * (a + 1) := Int.natCast_mul _ _
  split
  · refine ⟨by omega, ?_⟩
    rw [Nat.sub_add_cancel ha]
    assumption
  · exact ⟨by omega, by omega⟩

/-- one more bit of c -/
theorem halves (c j : Nat) (h : 1 ≤ c / 2 ^ j) : c / 2 ^ j = c / 2 ^ (j + 1) + (c / 2 ^ j - c / 2 ^ (j + 1) - 1) + 1 ∧ c / 2 ^ j - c / 2 ^ (j + 1) - 1 ≤ c / 2 ^ (j + 1) ∧ c / 2 ^ j ≤ c := by
  have e : c / 2 ^ (j + 1) = c / 2 ^ j / 2 := by rw [Nat.pow_succ, Nat.div_div_eq_div_mul]
  have := Nat.div_le_self c (2 ^ j)
  rw [e]
  omega
end Go.Proofs.YtjohpdobnedilaaGreatDoor

/- What integer.squareRoot does. -/
namespace Go.Proofs.YtjohpdobnedilaaGreatDoor
open Go.RowKit

theorem blen_spec {a : Nat} (h : a ≠ 0) : ∃ l, blen a = l + 1 ∧ 2 ^ l ≤ a ∧ a < 2 ^ (l + 1) := by
  refine ⟨Nat.log2 a, by unfold blen; rw [if_neg h], Nat.log2_self_le h, Nat.lt_log2_self⟩

theorem half_bits {a : Nat} (h : a ≠ 0) : ∃ c : Nat, ((blen a : Int) - 1) / 2 = c ∧ 4 ^ c ≤ a ∧ a < 4 ^ (c + 1) ∧ 2 * c + 1 ≤ blen a := by
  obtain ⟨l, e, l0, l1⟩ := blen_spec h
  refine ⟨l / 2, by rw [e]; omega, ?_, ?_, by omega⟩
  · have := Nat.pow_le_pow_right (show 0 < 2 by omega) (show l / 2 + l / 2 ≤ l by omega)
    rw [four_pow, ← Nat.pow_add]; omega
  · have := Nat.pow_le_pow_right (show 0 < 2 by omega) (show l + 1 ≤ (l / 2 + 1) + (l / 2 + 1) by omega)
    rw [four_pow, ← Nat.pow_add]; omega

theorem blen_limbs {a e : Nat} (h : a < 4294967296 ^ e) : blen a ≤ 32 * e := by
  rw [show 4294967296 ^ e = 2 ^ (32 * e) by rw [Nat.pow_mul]] at h
  by_cases h0 : a = 0
  · unfold blen; rw [if_pos h0]; omega
  · have h1 : blen a = Nat.log2 a + 1 := by unfold blen; rw [if_neg h0]
    have h2 := (Nat.log2_lt h0).2 h
    omega

theorem pow_limbs {k e : Nat} (h : k ≤ 32 * e) : 2 ^ k ≤ 4294967296 ^ e := by
  rw [show 4294967296 ^ e = 2 ^ (32 * e) by rw [Nat.pow_mul]]
  exact Nat.pow_le_pow_right (by omega) h

theorem near_len {a c d x : Nat} (h : Near a c d x) (ha : a < 4294967296 ^ 150) : x < 4294967296 ^ 76 := by
  obtain ⟨_, _, h3, _⟩ := h
  have h5 : a / 4 ^ (c - d) ≤ a := Nat.div_le_self _ _
  have e : (4294967296 : Nat) ^ 150 = 4294967296 ^ 75 * 4294967296 ^ 75 := by rw [← Nat.pow_add]
  rw [e] at ha
  have e2 : (4294967296 : Nat) ^ 76 = 4294967296 ^ 75 * 4294967296 := Nat.pow_succ ..
  rw [e2]
  generalize (4294967296 : Nat) ^ 75 = B at *
  rcases Nat.lt_or_ge x (B * 4294967296) with h | h
  · exact h
  · exfalso
    have hB : 0 < B := by
      rcases Nat.eq_zero_or_pos B with h | h
      · subst h; omega
      · exact h
    have h6 : B + 1 ≤ x := by omega
    have h7 := Nat.mul_le_mul (show B ≤ x - 1 by omega) (show B ≤ x - 1 by omega)
    have c1 : (((x - 1) * (x - 1) : Nat) : Int) = ((x : Int) - 1) * (x - 1) := by rw [Int.natCast_mul, Int.ofNat_sub (by omega)]; rfl
    omega

set_option maxRecDepth 100000 in
set_option maxHeartbeats 4000000 in
theorem root_any (a : Nat) (ao : Option Addr) (n ca : Nat) (w : World) (h : Sl w ao n ca (limbs a)) (hn : n ≤ 150) (h0 : a ≠ 0) :
    Calls Tryz.prog 119 #[.slice ao n ca] w fun e w' => ∃ ro k rc s, e = .returned (.slice ro k rc) ∧ Sl w' ro k rc (limbs s) ∧ s * s ≤ a ∧ a < (s + 1) * (s + 1) ∧ Below w.heap.size w w' := by
  have hn0 : ((n : Int) == 0) = false := by
    apply beq_eq_false_iff_ne.2
    intro e
    have hl := h.len
    exact h0 (limbs_inj ((List.eq_nil_of_length_eq_zero (by omega)).trans limbs_zero.symm))
  obtain ⟨c, hc, c0, c1, c2⟩ := half_bits h0
  have hL : blen a ≤ 4800 := by
    have h1 : blen a ≤ 32 * n := blen_limbs ((limbs_len_le a n).1 (by rw [h.len]; exact Nat.le_refl _))
    omega
  have hL0 : 1 ≤ blen a := by omega
  have HA := Lib.hid (show a < 4294967296 ^ 150 from Nat.lt_of_lt_of_le ((limbs_len_le a n).1 (by rw [h.len]; exact Nat.le_refl _)) (pow_le' hn))
  have HC := Lib.hid hc; clear hc
  obtain ⟨L, hLL⟩ : ∃ L, blen a = L := ⟨_, rfl⟩
  rw [hLL] at hL hL0 c2 HC
  have HL := Lib.hid hLL; clear hLL
  have C0 := Lib.hid c0; clear c0
  have C1 := Lib.hid c1; clear c1
  have hcb : c ≤ 2400 := by omega
  go_enter Tryz.func119, Tryz.ntmps119
  go_wp2_with fail
  refine (bitLen_any a ao n ca w h (by omega)).mono ?_
  rintro e w1 ⟨rfl, rfl⟩
  rw [HL.out]
  go_wp2_with fail
  rw [HC.out]
  refine (Tryz.bits_Len (c : Int) _ (by omega) (by omega)).mono ?_
  rintro e w2 ⟨rfl, rfl⟩
  rw [Int.toNat_natCast]
  obtain ⟨bl, hbl⟩ : ∃ bl, Lib.bitLen c = bl := ⟨_, rfl⟩
  have hb1 : ∀ j, j < bl → 1 ≤ c / 2 ^ j := by
    intro j hj
    by_cases h0 : c = 0
    · rw [h0, bitLen_zero] at hbl; omega
    · obtain ⟨l, e, l0, _⟩ := bitLen_spec c h0 (by omega)
      have := Nat.pow_le_pow_right (show 0 < 2 by omega) (show j ≤ l by omega)
      exact (Nat.le_div_iff_mul_le (Nat.pos_of_ne_zero (by simp))).2 (by omega)
  have hb2 : c / 2 ^ bl = 0 := by
    by_cases h0 : c = 0
    · rw [h0]; simp
    · obtain ⟨l, e, _, l1⟩ := bitLen_spec c h0 (by omega)
      rw [hbl] at e
      rw [e]; exact Nat.div_eq_of_lt l1
  have hb3 : bl ≤ 64 := by have := bitLen_32 (x := c) (by omega); omega
  rw [hbl]
  have HB1 := Lib.hid hb1
  have HB2 := Lib.hid hb2
  clear hb1 hb2 hbl
  have hbw := (Below.refl w.heap.size w).alloc (Nat.le_refl _) (.cells #[.int .u32 1] 64)
  have hone : Blk (w.alloc (.cells #[.int .u32 1] 64)) w.heap.size [1] := heap_alloc_new w _
  have hl1 : limbs 1 = [1] := by rw [limbs_pos (by omega), limbs_zero]; rfl
  have hsone := hone.sl (n := 1) (cap := 1) (Wf.cons (by omega) Wf.nil) rfl (by omega) (Nat.le_refl _)
  rw [← hl1] at hsone
  have h' := h.below hbw
  generalize w.alloc (.cells #[.int .u32 1] 64) = W at *
  have HBW := Lib.hid hbw
  clear hone hl1 h
  go_wp2
  go_loopw [4, 5, 6, 7, 8, 9] (fun r d i _ _ _ wr => ∃ (j x : Nat) (ro : Option Addr) (rk rc : Nat), j ≤ bl ∧ i = .int .i64 ((j : Int) - 1) ∧ d = .int .i64 ((c / 2 ^ j : Nat) : Int) ∧ r = .slice ro rk rc ∧ Sl wr ro rk rc (limbs x) ∧ rk ≤ 76 ∧ Near a c (c / 2 ^ j) x ∧ Below W.heap.size W wr)
    (fun _ _ i _ _ _ _ => (intOf i + 1).toNat)
  case atStart => exact ⟨bl, 1, _, 1, 1, Nat.le_refl _, rfl, by rw [HB2.out]; rfl, rfl, hsone, by omega, by rw [HB2.out]; exact Near.start C0.out C1.out, Below.refl _ _⟩
  case round =>
    obtain ⟨j, x, ro, rk, rc, hj, rfl, rfl, rfl, hx, hrk, hN, hB⟩ := hrel
    have HN := Lib.hid hN; clear hN
    by_cases hlt : 0 < j
    · obtain ⟨t, rfl⟩ : ∃ t, j = t + 1 := ⟨j - 1, by omega⟩
      have ej : ((t + 1 : Nat) : Int) - 1 = (t : Int) := by omega
      rw [ej]
      clear ej
      obtain ⟨g1, g2, g3⟩ := halves c t (HB1.out t (by omega))
      have hst := HN.out.step C0.out g1 g2 g3
      obtain ⟨E, hE⟩ : ∃ E, c / 2 ^ (t + 1) = E := ⟨_, rfl⟩
      obtain ⟨D, hD⟩ : ∃ D, c / 2 ^ t = D := ⟨_, rfl⟩
      rw [hE, hD] at g1 g2 hst
      rw [hD] at g3
      rw [hE]
      have HST := Lib.hid hst; clear hst
      have HE := Lib.hid hE; clear hE
      have hDi : (c : Int) / 2 ^ t = (D : Int) := by rw [← hD]; rw [Int.natCast_ediv, Int.natCast_pow]; rfl
      have HD := Lib.hid hD; clear hD
      have ha2 := h'.below hB
      have k1 : E + 1 ≤ D := by omega
      have k2 : D ≤ 2 * E + 1 := by omega
      have ex1 : (2 * (c : Int) - E - D + 1) = ((2 * c - E - D + 1 : Nat) : Int) := by omega
      have ex2 : ((D : Int) - E - 1) = ((D - E - 1 : Nat) : Int) := by omega
      have EX1 := Lib.hid ex1
      have EX2 := Lib.hid ex2
      clear g1 g2 ex1 ex2
      go_wp2_with fail
      rw [EX1.out]
      have hx0 : x ≠ 0 := by
        have := HN.out.2.1
        have hp : 0 < 2 ^ (c / 2 ^ (t + 1)) := Nat.pos_of_ne_zero (by simp)
        omega
      refine (shiftDown_any a (2 * c - E - D + 1) ao n ca _ ha2 (by omega) (by omega)).mono ?_
      rintro e w3 ⟨so, sk, sc, rfl, hs3, hw3⟩
      have hx3 := hx.below hw3
      have hB3 := hB.trans (hw3.mono hB.size)
      have hsk : sk ≤ n := by
        have h1 := limbs_mono (Nat.div_le_self a (2 ^ (2 * c - E - D + 1)))
        rw [ha2.len, hs3.len] at h1
        exact h1
      clear hx hB hw3 ha2
      go_wp2_with fail
      refine (div_says (a / 2 ^ (2 * c - E - D + 1)) x hx0 so ro sk rk sc rc w3 hs3 hx3 (by omega) (by omega)).mono ?_
      rintro e w4 ⟨qo, qk, qc, eo, ek, ec, rfl, hq4, he4, hw4⟩
      have hx4 := hx3.below hw4
      have hB4 := hB3.trans (hw4.mono hB3.size)
      have hqk : qk ≤ n := by
        have h1 := limbs_mono (Nat.div_le_self (a / 2 ^ (2 * c - E - D + 1)) x)
        rw [hs3.len, hq4.len] at h1
        omega
      clear hx3 hB3 hw4 hs3 he4
      go_wp2_with fail
      rw [EX2.out]
      refine (shiftUp_any x (D - E - 1) ro rk rc _ hx4 (by omega) (by omega)).mono ?_
      rintro e w5 ⟨uo, uk, uc, rfl, hu5, hw5⟩
      have hq5 := hq4.below hw5
      have hB5 := hB4.trans (hw5.mono hB4.size)
      clear hx4 hB4 hw5 hq4
      have huk : uk ≤ 1000 := by
        have h1 := near_len HN.out HA.out
        have h2 : 2 ^ (D - E - 1) ≤ 4294967296 ^ 75 := pow_limbs (by omega)
        have h3 : x * 2 ^ (D - E - 1) < 4294967296 ^ (76 + 75) := by
          rw [Nat.pow_add]
          exact Nat.mul_lt_mul_of_lt_of_le h1 h2 (Nat.pos_of_ne_zero (by simp))
        have h4 := (limbs_len_le _ _).2 h3
        rw [hu5.len] at h4
        omega
      go_wp2_with fail
      refine (plus_any _ _ _ _ _ _ _ _ _ hu5 hq5 (by omega) (by omega)).mono ?_
      rintro e w6 ⟨po, pk, pc, rfl, hp6, hw6⟩
      have hB6 := hB5.trans (hw6.mono hB5.size)
      go_wp2
      go_roundw
      case rel => exact ⟨t, _, po, pk, pc, by omega, rfl, by rw [HD.out], rfl, hp6, by rw [← hp6.len]; exact (limbs_len_le _ _).2 (near_len HST.out HA.out), by rw [HD.out]; exact HST.out, hB6⟩
      case measure => simp [intOf] <;> omega
    · obtain rfl : j = 0 := by omega
      have hN0 := HN.out
      rw [Nat.pow_zero, Nat.div_one] at hN0
      have hfin := hN0.finish
      have hx1 : 1 ≤ x := Nat.le_trans (Nat.pos_of_ne_zero (by simp)) hN0.2.1
      have HF := Lib.hid hfin
      clear hfin hN0
      have ha2 := h'.below hB
      go_wp2_with fail
      refine (times_any x x ro ro rk rk rc rc _ hx hx (by omega) (by omega) (by omega)).mono ?_
      rintro e w3 ⟨so, sk, sc, rfl, hs3, hw3⟩
      have hx3 := hx.below hw3
      have ha3 := ha2.below hw3
      have hB3 := hB.trans (hw3.mono hB.size)
      clear hx hB hw3 ha2
      go_wp2_with fail
      refine (compare_any (x * x) a _ _ _ _ _ _ w3 hs3 ha3).mono ?_
      rintro e w4 ⟨rfl, q, rfl⟩
      obtain ⟨W4, hW4, hq⟩ := drewN_world w3 q
      rw [hW4]
      clear hW4
      have hx4 := hx3.below hq
      have hB4 := hB3.trans (hq.mono hB3.size)
      clear hx3 ha3 hs3 hB3 hq
      by_cases hlt : a < x * x
      · have hs : sgn3 ((x * x : Nat) : Int) a = 1 := by unfold sgn3; rw [if_neg (by omega), if_pos (by omega)]
        rw [hs]
        have HLT := Lib.hid hlt; clear hlt hs
        go_wp2_with fail
        have hone : Blk (W4.alloc (.cells #[.int .u32 1] 64)) W4.heap.size [1] := heap_alloc_new W4 _
        have hb4 := (Below.refl W4.heap.size W4).alloc (Nat.le_refl _) (.cells #[.int .u32 1] 64)
        have hl1 : limbs 1 = [1] := by rw [limbs_pos (by omega), limbs_zero]; rfl
        have hs1 := hone.sl (n := 1) (cap := 1) (Wf.cons (by omega) Wf.nil) rfl (by omega) (Nat.le_refl _)
        rw [← hl1] at hs1
        refine (minus_any x 1 _ _ _ _ _ _ _ (hx4.below hb4) hs1 hx1).mono ?_
        rintro e w5 ⟨mo, mk, mc, rfl, hm5, hw5⟩
        have hB5 := hB4.trans ((hb4.trans (hw5.mono (by simp))).mono hB4.size)
        clear hone hb4 hl1 hs1 hw5
        go_wp2
        go_ret
        have hf := HF.out
        rw [if_pos HLT.out] at hf
        exact ⟨mo, mk, mc, x - 1, rfl, hm5, hf.1, hf.2, HBW.out.trans (hB5.mono (by have := HBW.out.size; omega))⟩
      · have hs : sgn3 ((x * x : Nat) : Int) a ≤ 0 := by unfold sgn3; rw [if_neg (show ¬ (a : Int) < ((x * x : Nat) : Int) by omega)]; split <;> omega
        generalize sgn3 ((x * x : Nat) : Int) a = s at *
        have HLT := Lib.hid hlt; clear hlt
        go_wp2
        go_ret
        have hf := HF.out
        rw [if_neg HLT.out] at hf
        exact ⟨ro, rk, rc, x, rfl, hx4, hf.1, hf.2, HBW.out.trans (hB4.mono (by have := HBW.out.size; omega))⟩
end Go.Proofs.YtjohpdobnedilaaGreatDoor

/- What integer.Sqrt does for a number that is not negative. -/
namespace Go.Proofs.YtjohpdobnedilaaGreatDoor
open Go.RowKit

set_option maxRecDepth 100000 in
set_option maxHeartbeats 1000000 in
theorem root_zero (ao : Option Addr) (ca : Nat) (w : World) :
    Calls Tryz.prog 119 #[.slice ao 0 ca] w fun e w' => e = .returned (.slice none 0 0) ∧ w = w' := by
  go_enter Tryz.func119, Tryz.ntmps119
  go_wp2
  go_ret
  exact ⟨rfl, rfl⟩

/-- the root of every number of at most 150 limbs -/
theorem root_all (a : Nat) (ao : Option Addr) (n ca : Nat) (w : World) (h : Sl w ao n ca (limbs a)) (hn : n ≤ 150) :
    Calls Tryz.prog 119 #[.slice ao n ca] w fun e w' => ∃ ro k rc s, e = .returned (.slice ro k rc) ∧ Sl w' ro k rc (limbs s) ∧ s * s ≤ a ∧ a < (s + 1) * (s + 1) ∧ Below w.heap.size w w' := by
  by_cases h0 : a = 0
  · subst h0
    have hl := h.len
    rw [limbs_zero] at hl
    subst hl
    exact (root_zero ao ca w).mono fun e w' ⟨he, hw⟩ => ⟨none, 0, 0, 0, he, by rw [limbs_zero]; exact Sl.nil w', by omega, by omega, by rw [← hw]; exact Below.refl _ _⟩
  · exact root_any a ao n ca w h hn h0

set_option maxRecDepth 100000 in
set_option maxHeartbeats 1000000 in
theorem sqrt_any (nb : Bool) (ao : Option Addr) (n cap : Nat) (x : Int) (w : World) (h : Bg w nb ao n cap x) (hn : n ≤ 150) (hx0 : 0 ≤ x) :
    Calls Tryz.prog 47 #[.agg #[.bool nb, .slice ao n cap]] w fun e w' => ∃ nr ro k cr, ∃ s : Nat, e = .returned (.tuple #[.agg #[.bool nr, .slice ro k cr], .int .i64 0]) ∧ Bn w' nr ro k cr s ∧ s * s ≤ x.natAbs ∧ x.natAbs < (s + 1) * (s + 1) ∧ Below w.heap.size w w' := by
  have hbg := h
  obtain ⟨⟨zs, hs, hx⟩, hsm⟩ := h
  have eax : (num zs).toNat = x.natAbs := by rw [hx, sgd_natAbs hs.wf]
  have hsg : 0 ≤ sgn3 x 0 := by unfold sgn3; split <;> (try split) <;> omega
  clear hx
  go_enter Tryz.func47, Tryz.ntmps47
  go_wp2_with fail
  obtain ⟨W, hW, hB, hbx, hrx, hz⟩ := boxes1 w nb ao n cap
  rw [← hW]
  clear hW
  have hs0 := hs.below hB
  have hbg0 := hbg.below hB
  generalize hBe : w.heap.size = B at *
  have HBe := Lib.hid hBe; clear hBe
  have k0 := hbx.c0
  have k1 := hbx.c1
  go_wp2_with fail
  refine (sign_any nb ao n cap x W hbg0).mono ?_
  rintro e w1 ⟨rfl, hw1⟩
  have x1 := hbx.below hw1
  have y1 := hrx.below hw1
  have hs1 := hs0.below hw1
  obtain ⟨b1, l1⟩ := bnext hB (by omega) hw1
  have hsz1 := hw1.size
  generalize sgn3 x 0 = s0 at *
  clear k0 k1 hbx hrx hs0 hbg0 hbg hw1 hs
  have k0 := x1.c0
  have k1 := x1.c1
  obtain ⟨m, hm, hs2, ht2⟩ := trim_at _ _ _ _ _ hs1
  rw [eax] at hs2
  have HT := Lib.hid ht2; clear ht2
  go_wp2_with fail
  refine (HT.out w1 hs1).mono ?_
  rintro e w2 ⟨rfl, rfl⟩
  go_wp2_with fail
  refine (root_all x.natAbs ao m cap w1 hs2 (by omega)).mono ?_
  rintro e w3 ⟨so, sk, sc, s, rfl, hs3, hq1, hq2, hw3⟩
  have y3 := y1.below hw3
  obtain ⟨b3, l3⟩ := bnext b1 l1 hw3
  have HQ1 := Lib.hid hq1
  have HQ2 := Lib.hid hq2
  clear hq1 hq2 y1 x1 hs1 hs2 k0 k1 hw3 HT
  go_wp2_with fail
  refine (signed_any _ _ _ _ _ _ hs3).mono ?_
  rintro e w5 ⟨ro, cr, rfl, hs5, hw5⟩
  have y5 := y3.below hw5
  obtain ⟨b5, l5⟩ := bnext b3 l3 hw5
  have q0 := y5.c0
  have q1 := y5.c1
  have q2 := y5.f 0
  have q3 := y5.f 1
  have z5 := y5.stored false ro sk cr
  have z0 := z5.c0
  have z1 := z5.c1
  have hres := bn_of (x := (s : Int)) (nb := false) (nr := false) (hs5.only_box y5 (only_set2 w5 (B + 1) (.bool false) (.slice ro sk cr))) (by simp) (by simp)
  have HRES := Lib.hid hres; clear hres
  have hbl := b5.trans ((only_set2 w5 (B + 1) (.bool false) (.slice ro sk cr)).below (Nat.le_succ B))
  go_wp2
  refine bodyPost_ret (v := .tuple #[.agg #[.bool false, .slice ro sk cr], .int .i64 0]) (by simp [results, Tryz.results47, go_sem, z0, z1]) rfl ⟨_, ro, sk, cr, s, rfl, HRES.out, HQ1.out, HQ2.out, ?_⟩
  rw [HBe.out]; exact hbl
end Go.Proofs.YtjohpdobnedilaaGreatDoor
