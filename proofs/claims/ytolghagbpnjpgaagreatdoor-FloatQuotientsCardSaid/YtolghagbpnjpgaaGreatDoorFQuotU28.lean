import Derived.Test.YtolghagbpnjpgaaGreatDoorFQuotU24
import Derived.Test.YtolghagbpnjpgaaGreatDoorFQuotU27
import Derived.Deep.RegionHeld3
import Derived.Test.YtolghagbpnjpgaaGreatDoorFQuotU23
import Derived.Test.YtolghagbpnjpgaaGreatDoorFQuotU13
import Derived.Test.YtolghagbpnjpgaaGreatDoorFQuotU14
namespace Go.Proofs.YtolghagbpnjpgaaGreatDoor
open Go.RowKit

section
variable {W w : World} {L : List DEnt} {u v : Value} {d d' : Dy} {c c' : Bool}
end

/-- is a dyad slim -/
def slimSays (n : Nat) (f : Int) (k b : Nat) : Bool := decide (n ≤ k ∧ (-(b : Int) ≤ f ∧ f ≤ b ∨ 131072 < f ∨ f < -131072))

set_option maxRecDepth 100000 in
set_option maxHeartbeats 4000000 in
theorem kitSlim_any (bb nb : Bool) (ao : Option Addr) (n ca : Nat) (f : Int) (k b : Nat) (w : World) (hk : k ≤ 100000) (hb : b ≤ 100000) :
    Calls Tryz.prog 20 #[.agg #[.bool bb, .bool nb, .slice ao n ca, .int .i64 f], .int .i64 k, .int .i64 b] w fun e w' => e = .returned (.bool (slimSays n f k b)) ∧ Ext w w' := by
  obtain ⟨r, hr⟩ : ∃ r, slimSays n f k b = r := ⟨_, rfl⟩
  rw [hr]
  have hcases : (¬ n ≤ k ∧ r = false) ∨ (n ≤ k ∧ f < -131072 ∧ r = true) ∨ (n ≤ k ∧ -131072 ≤ f ∧ f < -(b : Int) ∧ r = false) ∨ (n ≤ k ∧ -(b : Int) ≤ f ∧ f ≤ b ∧ r = true) ∨ (n ≤ k ∧ (b : Int) < f ∧ f ≤ 131072 ∧ r = false) ∨ (n ≤ k ∧ 131072 < f ∧ r = true) := by
    rw [← hr]
    unfold slimSays
    by_cases h1 : n ≤ k
    · rcases Int.lt_or_le f (-131072) with h2 | h2
      · right; left; exact ⟨h1, h2, decide_eq_true ⟨h1, Or.inr (Or.inr h2)⟩⟩
      · rcases Int.lt_or_le f (-(b : Int)) with h3 | h3
        · right; right; left; exact ⟨h1, h2, h3, decide_eq_false (by omega)⟩
        · rcases Int.lt_or_le (b : Int) f with h4 | h4
          · rcases Int.lt_or_le 131072 f with h5 | h5
            · right; right; right; right; right; exact ⟨h1, h5, decide_eq_true ⟨h1, Or.inr (Or.inl h5)⟩⟩
            · right; right; right; right; left; exact ⟨h1, h4, h5, decide_eq_false (by omega)⟩
          · right; right; right; left; exact ⟨h1, h3, h4, decide_eq_true ⟨h1, Or.inl ⟨h3, h4⟩⟩⟩
    · left; exact ⟨h1, decide_eq_false (fun h => h1 h.1)⟩
  clear hr
  have hk1 : (k : Int) ≤ 100000 := by omega
  go_enter Tryz.func20, Tryz.ntmps20
  go_upto_region 1 with fail
  obtain ⟨W, hW, hB, hbx, hz⟩ := dbox_new w bb nb ao n ca f
  rw [← hW]
  clear hW
  have HB := Lib.hid (show Ext w W from hB)
  clear hB
  generalize w.heap.size = B at *
  have k2 := hbx.c2
  have k3 := hbx.c3
  clear hbx hz
  rcases hcases with ⟨h1, rfl⟩ | ⟨h1, h2, rfl⟩ | ⟨h1, h2, h3, rfl⟩ | ⟨h1, h2, h3, rfl⟩ | ⟨h1, h2, h3, rfl⟩ | ⟨h1, h2, rfl⟩
  all_goals
    go_wp2
    go_ret
    refine ⟨?_, HB.out⟩
    first
      | rfl
      | exact congrArg (fun r => Ending.returned (Value.bool r)) (show (decide (131072 < f) || decide (f < -131072)) = false by rw [decide_eq_false (by omega), decide_eq_false (by omega)]; rfl)
      | exact congrArg (fun r => Ending.returned (Value.bool r)) (show (decide (f ≤ (b : Int)) || decide (131072 < f) || decide (f < -131072)) = false by rw [decide_eq_false (by omega), decide_eq_false (by omega), decide_eq_false (by omega)]; rfl)

end Go.Proofs.YtolghagbpnjpgaaGreatDoor

namespace Go.Proofs.YtolghagbpnjpgaaGreatDoor
open Go.RowKit

/-- what is known of a raw dyad that may be too long -/
def RawD (w : World) (_bb _nb : Bool) (ao : Option Addr) (n ca : Nat) (f : Int) : Prop := -9223372036854775808 ≤ f ∧ f ≤ 9223372036854775807 ∧ (n ≤ 1099511627776 → ∃ zs, Sl w ao n ca zs)

end Go.Proofs.YtolghagbpnjpgaaGreatDoor

namespace Go.Proofs.YtolghagbpnjpgaaGreatDoor
open Go.RowKit

theorem RawD.dl {w : World} {bb nb : Bool} {ao : Option Addr} {n ca : Nat} {f : Int} {k b : Nat} (h : RawD w bb nb ao n ca f) (hs : slimSays n f k b = true) (hk : k ≤ 1000) :
    ∃ d, Dl w (.agg #[.bool bb, .bool nb, .slice ao n ca, .int .i64 f]) d ∧ ((-(b : Int) ≤ f ∧ f ≤ b) ∨ d = none ∨ d = some (0, 0)) ∧ Nd d := by
  obtain ⟨h1, h2, h3⟩ := h
  unfold slimSays at hs
  simp only [decide_eq_true_eq] at hs
  obtain ⟨hn, hf⟩ := hs
  obtain ⟨zs, hz⟩ := h3 (by omega)
  have hbg : Bg w nb ao n ca (sgd nb zs) := ⟨⟨zs, hz, rfl⟩, by omega⟩
  have hbl := bg_blen hbg
  refine ⟨_, ⟨bb, nb, ao, n, ca, _, f, rfl, hbg, by omega, h1, h2, rfl⟩, ?_, ?_⟩
  · cases bb with
    | true => right; left; rfl
    | false =>
      rcases hf with h | h
      · left; exact h
      · right
        by_cases h0 : sgd nb zs = 0
        · right; simp only [Bool.false_eq_true, if_false]; rw [h0, dmk_zero]
        · left
          have ht := tzf_lt (show (sgd nb zs).natAbs ≠ 0 by omega)
          simp only [Bool.false_eq_true, if_false]
          unfold dmk
          rw [if_neg h0, if_pos (by omega)]
  · cases bb with
    | true => trivial
    | false => exact dmk_nd _ _

theorem slim_no_at (bb nb : Bool) (ao : Option Addr) (n ca : Nat) (f : Int) (w : World) (r : Bool) (h : slimSays n f 20 3000 = r) :
    Calls Tryz.prog 20 #[.agg #[.bool bb, .bool nb, .slice ao n ca, .int .i64 f], .int .i64 20, .int .i64 3000] w fun e w' => e = .returned (.bool r) ∧ Ext w w' := by
  rw [← h]; exact kitSlim_any bb nb ao n ca f 20 3000 w (by omega) (by omega)

end Go.Proofs.YtolghagbpnjpgaaGreatDoor

namespace Go.Proofs.YtolghagbpnjpgaaGreatDoor

/-- Newton's iteration for a root, from above -/
theorem newton_end {N r s : Nat} (h2 : N < (s + 1) * (s + 1)) (hs : s ≤ r) (hr : 0 < r) (hq : r ≤ N / r) : r = s := by
  have h1 := (Nat.le_div_iff_mul_le hr).1 hq
  rcases Nat.lt_or_ge s r with h | h
  · have := Nat.mul_le_mul (show s + 1 ≤ r from h) (show s + 1 ≤ r from h)
    omega
  · omega
theorem newton_down {N r s : Nat} (h1 : s * s ≤ N) (hs : s ≤ r) (hr : 0 < r) (hq : N / r < r) : s ≤ (r + N / r) / 2 ∧ (r + N / r) / 2 < r := by
  refine ⟨?_, by omega⟩
  have h : 2 * s ≤ r + N / r := by
    obtain ⟨d, hd⟩ : ∃ d, r = s + d := ⟨r - s, by omega⟩
    by_cases hds : d ≤ s
    · have h3 : (s - d) ≤ N / r := by
        rw [Nat.le_div_iff_mul_le hr, hd]
        obtain ⟨f, hf⟩ : ∃ f, s = f + d := ⟨s - d, by omega⟩
        have e1 : (s - d) * (s + d) + d * d = s * s := by
          rw [hf, Nat.add_sub_cancel]
          simp only [Nat.mul_add, Nat.mul_comm]
          omega
        omega
      omega
    · generalize N / r = z at *
      omega
  omega
/-- the last word of the square tells whether the root is exact -/
theorem exact_word {hi lo r : Nat} (h1 : r * r ≤ hi * 18446744073709551616 + lo) (h2 : hi * 18446744073709551616 + lo < (r + 1) * (r + 1)) (hr : r < 9223372036854775808) (hl : lo < 18446744073709551616) : r * r % 18446744073709551616 = lo ↔ r * r = hi * 18446744073709551616 + lo := by
  have e : (r + 1) * (r + 1) = r * r + 2 * r + 1 := by rw [Nat.add_mul, Nat.mul_add]; omega
  rw [e] at h2
  generalize r * r = q at *
  constructor <;> intro h <;> omega
end Go.Proofs.YtolghagbpnjpgaaGreatDoor

namespace Go.Proofs.YtolghagbpnjpgaaGreatDoor
open Go.RowKit

theorem and_one_i64 (e : Int) : bits BinOp.and IntKind.i64 e 1 = e % 2 := by
  have h1 : (BitVec.ofInt 64 e).toNat = (e % 18446744073709551616).toNat := by
    rw [BitVec.toNat_ofInt]; rfl
  have h2 : (BitVec.ofInt 64 (1 : Int)).toNat = 1 := by decide
  show IntKind.i64.wrap ((BitVec.ofInt 64 e &&& BitVec.ofInt 64 1).toNat : Int) = _
  rw [BitVec.toNat_and, h1, h2, Nat.and_one_is_mod, IntKind.wrap_i64]
  omega

/-- a root's number: what is under it, and where -/
structure RootOf (N : Nat) (e : Int) (M hi lo r : Nat) (E : Int) (s : Nat) : Prop where
  val : M = N * 2 ^ s
  exp : 2 * E + s = e
  words : hi * 18446744073709551616 + lo = M
  hlo : lo < 18446744073709551616
  hi0 : 1152921504606846976 ≤ hi
  hi1 : hi < 4611686018427387904
  r0 : r * r ≤ M
  r1 : M < (r + 1) * (r + 1)
  r2 : 4611686018427387904 ≤ r
  r3 : r < 9223372036854775808

theorem div_at {hi lo r : Nat} (hl : lo < 18446744073709551616) (h0 : hi ≠ 0) (h1 : hi < 4611686018427387904) (hr : 4611686018427387904 ≤ r) (hr2 : r ≤ 9223372036854775808) (w : World) :
    Calls Tryz.prog 135 #[.int .u64 (hi : Int), .int .u64 (lo : Int), .int .u64 (r : Int)] w fun e w' => e = .returned (.tuple #[.int .u64 (((hi * 18446744073709551616 + lo) / r : Nat) : Int), .int .u64 (((hi * 18446744073709551616 + lo) % r : Nat) : Int)]) ∧ w = w' := by
  by_cases h : r = 9223372036854775808
  · exact div64_any hi lo r 0 (by omega) h0 hl (by rw [h]; decide) (by rw [h]; decide) (by omega) w
  · exact div64_any hi lo r 1 (by omega) h0 hl (show 2 ^ 62 ≤ r from hr) (show r < 2 ^ 63 by omega) (by omega) w

set_option maxRecDepth 100000 in
set_option maxHeartbeats 2000000 in
theorem wordRoot_any {hi lo s : Nat} (hl : lo < 18446744073709551616) (h0 : 1152921504606846976 ≤ hi) (h1 : hi < 4611686018427387904) (r1 : s * s ≤ hi * 18446744073709551616 + lo) (r2 : hi * 18446744073709551616 + lo < (s + 1) * (s + 1)) (b1 : 4611686018427387904 ≤ s) (b2 : s < 9223372036854775808) (w : World) :
    Calls Tryz.prog 142 #[.int .u64 (hi : Int), .int .u64 (lo : Int)] w fun e w' => e = .returned (.int .u64 (s : Int)) ∧ w = w' := by
  have CD := Lib.hid (fun r (hr : s ≤ r) (hr2 : r ≤ 9223372036854775808) w => div_at (hi := hi) (lo := lo) (r := r) hl (by omega) h1 (by omega) hr2 w)
  have NE := Lib.hid (fun r (hs : s ≤ r) (hq : r ≤ (hi * 18446744073709551616 + lo) / r) => newton_end (N := hi * 18446744073709551616 + lo) (r := r) r2 hs (by omega) hq)
  have NS := Lib.hid (fun r (hs : s ≤ r) (hq : (hi * 18446744073709551616 + lo) / r < r) => newton_down (N := hi * 18446744073709551616 + lo) (r := r) r1 hs (by omega) hq)
  clear r1 r2 hl h0 h1
  go_enter Tryz.func142, Tryz.ntmps142
  go_wp2
  go_loopw [5] (fun q wx => ∃ r : Nat, q = .int .u64 (r : Int) ∧ s ≤ r ∧ r ≤ 9223372036854775808 ∧ w = wx) (fun q _ => (intOf q).toNat)
  case atStart => exact ⟨9223372036854775808, rfl, by omega, by omega, rfl⟩
  case round =>
    obtain ⟨r, rfl, h3, h4, rfl⟩ := hrel
    obtain ⟨Q, hQ⟩ : ∃ Q, (hi * 18446744073709551616 + lo) / r = Q := ⟨_, rfl⟩
    have CD1 := CD.out r h3 h4
    have NE1 := NE.out r h3
    have NS1 := NS.out r h3
    rw [hQ] at CD1 NE1 NS1
    have CD1 := Lib.hid CD1
    have NE1 := Lib.hid NE1
    have NS1 := Lib.hid NS1
    clear hQ
    by_cases hq : r ≤ Q
    · have hqi : (r : Int) ≤ (Q : Int) := by omega
      have HE := Lib.hid (NE1.out hq)
      clear hq
      go_wp2_with fail
      refine (CD1.out _).mono ?_
      rintro e w1 ⟨rfl, rfl⟩
      go_wp2
      go_ret
      refine ⟨?_, rfl⟩
      show Ending.returned (.int .u64 (r : Int)) = _
      rw [HE.out]
    · have hqi : ¬ (r : Int) ≤ (Q : Int) := by omega
      obtain ⟨k1, k2⟩ := NS1.out (by omega)
      have hw : IntKind.u64.wrap ((r : Int) + (Q : Int)) = (r : Int) + (Q : Int) := by rw [IntKind.wrap_u64]; omega
      have hd : ((r : Int) + (Q : Int)) / 2 = (((r + Q) / 2 : Nat) : Int) := by omega
      have HD := Lib.hid hd
      clear hd
      generalize (r + Q) / 2 = r' at *
      clear hq
      go_wp2_with fail
      refine (CD1.out _).mono ?_
      rintro e w1 ⟨rfl, rfl⟩
      go_wp2
      go_roundw
      case rel => exact ⟨r', by first | rfl | exact congrArg (Value.int IntKind.u64) HD.out, k1, by omega, by first | rfl | trivial⟩
      case measure => simp [intOf]; omega

end Go.Proofs.YtolghagbpnjpgaaGreatDoor

namespace Go.Proofs.YtolghagbpnjpgaaGreatDoor

/-- what the four roundings of a dyad with more bits are -/
structure NearBig (d lo hi near inn : Dy) (c : Int) : Prop where
  lo_ne : lo ≠ none
  hi_ne : hi ≠ none
  near_ne : near ≠ none
  lohi : lo ≠ hi
  a : sgn3 (sc lo) (sc d) = -1
  b : sgn3 (sc d) (sc hi) = -1
  below : dsub d lo ≠ none
  above : dsub hi d ≠ none
  cmp : sgn3 (sc (dsub d lo)) (sc (dsub hi d)) = c
  choice : c = -1 ∧ near = lo ∨ c = 1 ∧ near = hi ∨ c = 0 ∧ (near = lo ∨ near = hi)
  inward : dm d < 0 ∧ inn = hi ∨ 0 ≤ dm d ∧ inn = lo

end Go.Proofs.YtolghagbpnjpgaaGreatDoor

namespace Go.Proofs.YtolghagbpnjpgaaGreatDoor

/-- what the statement compares -/
structure QuoIs (a b lo hi : Dy) (p x y : Int) : Prop where
  lon : lo ≠ none
  hin : hi ≠ none
  lob : (blen (dm lo).natAbs : Int) ≤ p
  hib : (blen (dm hi).natAbs : Int) ≤ p
  lom : dmul lo b ≠ none
  him : dmul hi b ≠ none
  cx : sgn3 (sc (dmul lo b)) (sc a) = x
  cy : sgn3 (sc a) (sc (dmul hi b)) = y
  xle : ¬ 0 < x
  yle : ¬ 0 < y
  same : lo = hi ↔ x = 0
  both : x = 0 ↔ y = 0

end Go.Proofs.YtolghagbpnjpgaaGreatDoor

namespace Go.Proofs.YtolghagbpnjpgaaGreatDoor

theorem isq_ex (N : Nat) : ∃ s, s * s ≤ N ∧ N < (s + 1) * (s + 1) := by
  induction N with
  | zero => exact ⟨0, by omega, by omega⟩
  | succ n ih =>
    obtain ⟨s, h1, h2⟩ := ih
    by_cases h : n + 1 < (s + 1) * (s + 1)
    · exact ⟨s, by omega, h⟩
    · refine ⟨s + 1, by omega, ?_⟩
      have e : (s + 1 + 1) * (s + 1 + 1) = (s + 1) * (s + 1) + 2 * (s + 1) + 1 := by rw [Nat.add_mul (s + 1) 1, Nat.mul_add (s + 1) (s + 1) 1]; omega
      omega
/-- the root without its fraction -/
noncomputable def isq (N : Nat) : Nat := (isq_ex N).choose
theorem isq_spec (N : Nat) : isq N * isq N ≤ N ∧ N < (isq N + 1) * (isq N + 1) := (isq_ex N).choose_spec
theorem isq_le {N a : Nat} : a ≤ isq N ↔ a * a ≤ N := by
  obtain ⟨h1, h2⟩ := isq_spec N
  constructor
  · intro h; exact Nat.le_trans (Nat.mul_le_mul h h) h1
  · intro h
    rcases Nat.lt_or_ge (isq N) a with h3 | h3
    · have := Nat.mul_le_mul (show isq N + 1 ≤ a from h3) (show isq N + 1 ≤ a from h3)
      omega
    · exact h3
theorem isq_of {N s : Nat} (h1 : s * s ≤ N) (h2 : N < (s + 1) * (s + 1)) : s = isq N := by
  have a := isq_le.2 h1
  rcases Nat.lt_or_ge s (isq N) with h | h
  · have := isq_le.1 (show s + 1 ≤ isq N from h)
    omega
  · omega
theorem isq_sq (a : Nat) : isq (a * a) = a := by
  refine (isq_of (Nat.le_refl _) ?_).symm
  have e : (a + 1) * (a + 1) = a * a + 2 * a + 1 := by rw [Nat.add_mul a 1, Nat.mul_add a a 1]; omega
  omega

/-- what the statement compares -/
structure RootIs (a lo hi : Dy) (x y : Int) : Prop where
  lon : lo ≠ none
  hin : hi ≠ none
  lob : blen (dm lo).natAbs ≤ 80
  hib : blen (dm hi).natAbs ≤ 80
  lom : dmul lo lo ≠ none
  him : dmul hi hi ≠ none
  cx : sgn3 (sc (dmul lo lo)) (sc a) = x
  cy : sgn3 (sc a) (sc (dmul hi hi)) = y
  xle : ¬ 0 < x
  yle : ¬ 0 < y
  same : lo = hi ↔ x = 0

end Go.Proofs.YtolghagbpnjpgaaGreatDoor

namespace Go.Proofs.YtolghagbpnjpgaaGreatDoor

theorem quo_more {A C k j : Nat} (hC : C ≠ 0) :
    A * 2 ^ (k + j) / C / 2 ^ j = A * 2 ^ k / C ∧ (decide (A * 2 ^ (k + j) % C ≠ 0) || decide (A * 2 ^ (k + j) / C % 2 ^ j ≠ 0)) = decide (A * 2 ^ k % C ≠ 0) := by
  have hJ : 0 < 2 ^ j := Nat.pow_pos (by omega)
  rw [Nat.pow_add, ← Nat.mul_assoc]
  generalize A * 2 ^ k = X
  generalize 2 ^ j = J at *
  have h1 : X * J / C / J = X / C := by rw [Nat.div_div_eq_div_mul, Nat.mul_div_mul_right _ _ hJ]
  refine ⟨h1, ?_⟩
  have d1 := Nat.div_add_mod (X * J) C
  have d2 := Nat.div_add_mod (X * J / C) J
  have d3 := Nat.div_add_mod X C
  rw [h1] at d2
  generalize X * J / C % J = s at *
  generalize X * J % C = r' at *
  generalize X % C = r at *
  generalize X / C = Q at *
  rw [← d2, ← d3] at d1
  have e : C * s + r' = r * J := by
    have e1 : C * (J * Q + s) + r' = C * (J * Q) + (C * s + r') := by rw [Nat.mul_add]; omega
    have e2 : (C * Q + r) * J = C * (J * Q) + r * J := by rw [Nat.add_mul, Nat.mul_assoc, Nat.mul_comm Q J]
    omega
  rw [← Bool.decide_or]
  apply decide_eq_decide.2
  constructor
  · intro h h2
    subst h2
    rw [Nat.zero_mul] at e
    rcases h with h | h
    · omega
    · have := Nat.mul_pos (Nat.pos_of_ne_zero hC) (Nat.pos_of_ne_zero h); omega
  · intro h
    by_cases h2 : r' = 0
    · right
      intro h3
      rw [h2, h3, Nat.mul_zero] at e
      have := Nat.mul_pos (Nat.pos_of_ne_zero h) hJ
      omega
    · exact Or.inl h2
theorem fla_quo {neg : Bool} {A C k j : Nat} {E mode : Int} (hC : C ≠ 0) (h : 2 ^ 53 ≤ A * 2 ^ k / C) :
    fla neg (A * 2 ^ (k + j) / C) E (decide (A * 2 ^ (k + j) % C ≠ 0)) mode = fla neg (A * 2 ^ k / C) (E + j) (decide (A * 2 ^ k % C ≠ 0)) mode := by
  obtain ⟨h1, h2⟩ := quo_more (A := A) (k := k) (j := j) hC
  have h3 := fla_tail neg (N := A * 2 ^ (k + j) / C) E (decide (A * 2 ^ (k + j) % C ≠ 0)) mode j (by rw [h1]; exact h)
  rw [h1, h2] at h3
  exact h3.symm
/-- of two lengths that suffice both give the same -/
theorem fla_quo_any {neg : Bool} {A C k k' : Nat} {E mode : Int} (hC : C ≠ 0) (h : 2 ^ 53 ≤ A * 2 ^ k / C) (h' : 2 ^ 53 ≤ A * 2 ^ k' / C) :
    fla neg (A * 2 ^ k / C) (E - k) (decide (A * 2 ^ k % C ≠ 0)) mode = fla neg (A * 2 ^ k' / C) (E - k') (decide (A * 2 ^ k' % C ≠ 0)) mode := by
  rcases Nat.le_total k k' with h1 | h1
  · obtain ⟨j, rfl⟩ : ∃ j, k' = k + j := ⟨k' - k, by omega⟩
    rw [fla_quo (j := j) hC h]
    congr 1
    omega
  · obtain ⟨j, rfl⟩ : ∃ j, k = k' + j := ⟨k - k', by omega⟩
    rw [fla_quo (j := j) hC h']
    congr 1
    omega
theorem root_more {M j : Nat} : isq (M * (2 ^ j * 2 ^ j)) / 2 ^ j = isq M ∧ (decide (isq (M * (2 ^ j * 2 ^ j)) * isq (M * (2 ^ j * 2 ^ j)) ≠ M * (2 ^ j * 2 ^ j)) || decide (isq (M * (2 ^ j * 2 ^ j)) % 2 ^ j ≠ 0)) = decide (isq M * isq M ≠ M) := by
  have hJ : 0 < 2 ^ j := Nat.pow_pos (by omega)
  generalize 2 ^ j = J at *
  have hsq : ∀ c : Nat, c * c * (J * J) = (c * J) * (c * J) := fun c => by rw [Nat.mul_mul_mul_comm]
  have hJJ : 0 < J * J := Nat.mul_pos hJ hJ
  have hL : ∀ c : Nat, c ≤ isq (M * (J * J)) / J ↔ c ≤ isq M := by
    intro c
    rw [Nat.le_div_iff_mul_le hJ, isq_le, isq_le, ← hsq]
    exact ⟨fun h => Nat.le_of_mul_le_mul_right h hJJ, fun h => Nat.mul_le_mul_right _ h⟩
  have hR : isq (M * (J * J)) / J = isq M := Nat.le_antisymm ((hL _).1 (Nat.le_refl _)) ((hL _).2 (Nat.le_refl _))
  refine ⟨hR, ?_⟩
  rw [← Bool.decide_or]
  apply decide_eq_decide.2
  constructor
  · intro h h2
    have h3 : M * (J * J) = (isq M * J) * (isq M * J) := by rw [← hsq, h2]
    have h4 : isq (M * (J * J)) = isq M * J := by rw [h3, isq_sq]
    rcases h with h | h
    · apply h; rw [h4, h3]
    · apply h; rw [h4]; exact Nat.mul_mod_left _ _
  · intro h
    by_cases h2 : isq (M * (J * J)) % J = 0
    · left
      intro h3
      have hd := Nat.div_add_mod (isq (M * (J * J))) J
      rw [h2, hR, Nat.add_zero, Nat.mul_comm] at hd
      rw [← hd, ← hsq] at h3
      exact h (Nat.eq_of_mul_eq_mul_right hJJ h3)
    · exact Or.inr h2
theorem fla_root {neg : Bool} {M j : Nat} {E mode : Int} (h : 2 ^ 53 ≤ isq M) :
    fla neg (isq (M * (2 ^ j * 2 ^ j))) E (decide (isq (M * (2 ^ j * 2 ^ j)) * isq (M * (2 ^ j * 2 ^ j)) ≠ M * (2 ^ j * 2 ^ j))) mode = fla neg (isq M) (E + j) (decide (isq M * isq M ≠ M)) mode := by
  obtain ⟨h1, h2⟩ := root_more (M := M) (j := j)
  have h3 := fla_tail neg (N := isq (M * (2 ^ j * 2 ^ j))) E (decide (isq (M * (2 ^ j * 2 ^ j)) * isq (M * (2 ^ j * 2 ^ j)) ≠ M * (2 ^ j * 2 ^ j))) mode j (by rw [h1]; exact h)
  rw [h1, h2] at h3
  exact h3.symm
/-- the program's root of a float is the reference's longer one -/
theorem root_long {neg : Bool} {mode : Int} {N A i s k : Nat} {E e : Int} (hN : N = A * 2 ^ i) (hexp : 2 * E + s = e) (hev : (e + i - (k : Int)) % 2 = 0) (h1 : 2 ^ 53 ≤ isq (N * 2 ^ s)) (h2 : 2 ^ 53 ≤ isq (A * 2 ^ k)) :
    fla neg (isq (N * 2 ^ s)) E (decide (isq (N * 2 ^ s) * isq (N * 2 ^ s) ≠ N * 2 ^ s)) mode = fla neg (isq (A * 2 ^ k)) ((e + i - (k : Int)) / 2) (decide (isq (A * 2 ^ k) * isq (A * 2 ^ k) ≠ A * 2 ^ k)) mode := by
  have e1 : N * 2 ^ s = A * 2 ^ (i + s) := by rw [hN, Nat.mul_assoc, ← Nat.pow_add]
  rw [e1] at h1 ⊢
  rcases Nat.le_total k (i + s) with h | h
  · obtain ⟨j, hj⟩ : ∃ j, i + s = k + (j + j) := ⟨(i + s - k) / 2, by omega⟩
    have e2 : A * 2 ^ (i + s) = A * 2 ^ k * (2 ^ j * 2 ^ j) := by rw [hj, Nat.pow_add, ← Nat.mul_assoc, Nat.pow_add 2 j j]
    rw [e2, fla_root h2]
    congr 1
    omega
  · obtain ⟨j, hj⟩ : ∃ j, k = i + s + (j + j) := ⟨(k - (i + s)) / 2, by omega⟩
    have e2 : A * 2 ^ k = A * 2 ^ (i + s) * (2 ^ j * 2 ^ j) := by rw [hj, Nat.pow_add, ← Nat.mul_assoc, Nat.pow_add 2 j j]
    rw [e2, fla_root h1]
    congr 1
    omega
end Go.Proofs.YtolghagbpnjpgaaGreatDoor

namespace Go.Proofs.YtolghagbpnjpgaaGreatDoor

theorem quo_big {A C : Nat} (hA : A ≠ 0) (hC : C ≠ 0) : 2 ^ 61 ≤ A * 2 ^ (60 + 2 + blen C - blen A) / C := by
  have h1 := blen_lt C
  have h2 : 2 ^ (blen A - 1) ≤ A := by
    have := Nat.log2_self_le hA
    have e : blen A - 1 = Nat.log2 A := by unfold blen; rw [if_neg hA]; omega
    rw [e]; exact this
  have hb : 1 ≤ blen A := by unfold blen; rw [if_neg hA]; omega
  rw [Nat.le_div_iff_mul_le (Nat.pos_of_ne_zero hC)]
  refine Nat.le_trans (Nat.mul_le_mul_left _ (Nat.le_of_lt h1)) ?_
  refine Nat.le_trans ?_ (Nat.mul_le_mul_right _ h2)
  rw [← Nat.pow_add, ← Nat.pow_add]
  exact Nat.pow_le_pow_right (by omega) (by omega)
theorem root_big {A k : Nat} (hA : A ≠ 0) (hk : 2 * ((60 : Nat) : Int) + 4 - (blen A : Int) ≤ (k : Nat)) : 2 ^ 61 ≤ isq (A * 2 ^ k) := by
  rw [isq_le, ← Nat.pow_add]
  have h2 : 2 ^ (blen A - 1) ≤ A := by
    have := Nat.log2_self_le hA
    have e : blen A - 1 = Nat.log2 A := by unfold blen; rw [if_neg hA]; omega
    rw [e]; exact this
  have hb : 1 ≤ blen A := by unfold blen; rw [if_neg hA]; omega
  refine Nat.le_trans ?_ (Nat.mul_le_mul_right _ h2)
  rw [← Nat.pow_add]
  exact Nat.pow_le_pow_right (by omega) (by omega)
theorem big_place {Q : Nat} {e : Int} (h : 2 ^ 61 ≤ Q) : e < fplace Q e := by
  have h0 : Q ≠ 0 := by have : 0 < 2 ^ 61 := Nat.pow_pos (by omega); omega
  have h1 : 61 ≤ Nat.log2 Q := (Nat.le_log2 h0).2 h
  unfold fplace
  omega
theorem big_53 {Q : Nat} (h : 2 ^ 61 ≤ Q) : 2 ^ 53 ≤ Q := Nat.le_trans (Nat.pow_le_pow_right (by omega) (by omega)) h
theorem big_ne {Q : Nat} (h : 2 ^ 61 ≤ Q) : Q ≠ 0 := by have : 0 < 2 ^ 61 := Nat.pow_pos (by omega); omega
/-- two lengths of a root that suffice give the same float -/
theorem fla_root_any {neg : Bool} {mode : Int} {A k k' : Nat} {e : Int} (hev : (e - (k : Int)) % 2 = 0) (hev' : (e - (k' : Int)) % 2 = 0) (h : 2 ^ 53 ≤ isq (A * 2 ^ k)) (h' : 2 ^ 53 ≤ isq (A * 2 ^ k')) :
    fla neg (isq (A * 2 ^ k)) ((e - (k : Int)) / 2) (decide (isq (A * 2 ^ k) * isq (A * 2 ^ k) ≠ A * 2 ^ k)) mode = fla neg (isq (A * 2 ^ k')) ((e - (k' : Int)) / 2) (decide (isq (A * 2 ^ k') * isq (A * 2 ^ k') ≠ A * 2 ^ k')) mode := by
  have h3 := root_long (neg := neg) (mode := mode) (N := A) (A := A) (i := 0) (s := k) (k := k') (E := (e - (k : Int)) / 2) (e := e) (by omega) (by omega) (by omega) h h'
  rw [h3]
  congr 1
  omega
/-- the quotient of two dyads, as a float -/
def quoV (d d' : Dy) (mode : Int) : Nat :=
  match d, d' with
  | some (m, e), some (m', e') =>
    if m' = 0 then 9221120237041090560
    else if m = 0 then 0
    else flr (decide (m < 0) != decide (m' < 0)) (m.natAbs * 2 ^ (60 + 2 + blen m'.natAbs - blen m.natAbs) / m'.natAbs) (e - e' + -((60 + 2 + blen m'.natAbs - blen m.natAbs : Nat) : Int)) (decide (m.natAbs * 2 ^ (60 + 2 + blen m'.natAbs - blen m.natAbs) % m'.natAbs ≠ 0)) mode
  | _, _ => 9221120237041090560
/-- how far a root is taken -/
def rootK (A : Nat) (e : Int) : Nat := 126 - blen A + ((e - ((126 - blen A : Nat) : Int)) % 2).toNat
theorem rootK_ok {A : Nat} {e : Int} : 2 * ((60 : Nat) : Int) + 4 - (blen A : Int) ≤ (rootK A e : Nat) ∧ (e - (rootK A e : Int)) % 2 = 0 := by
  unfold rootK; omega
/-- the root of a dyad, as a float -/
noncomputable def rootV (d : Dy) (mode : Int) : Nat :=
  match d with
  | some (m, e) =>
    if m < 0 then 9221120237041090560
    else if m = 0 then 0
    else fla false (isq (m.natAbs * 2 ^ rootK m.natAbs e)) ((e - (rootK m.natAbs e : Int)) / 2) (decide (isq (m.natAbs * 2 ^ rootK m.natAbs e) * isq (m.natAbs * 2 ^ rootK m.natAbs e) ≠ m.natAbs * 2 ^ rootK m.natAbs e)) mode
  | none => 9221120237041090560
theorem rootV_any {A k : Nat} {e mode : Int} (hA : A ≠ 0) (hk : 2 * ((60 : Nat) : Int) + 4 - (blen A : Int) ≤ (k : Nat)) (hev : (e - (k : Int)) % 2 = 0) :
    flr false (isq (A * 2 ^ k)) ((e - (k : Int)) / 2) (decide (isq (A * 2 ^ k) * isq (A * 2 ^ k) ≠ A * 2 ^ k)) mode = rootV (some ((A : Int), e)) mode := by
  unfold rootV
  dsimp only
  rw [if_neg (by omega), if_neg (by omega), Int.natAbs_natCast]
  unfold flr
  rw [if_neg (by decide), Nat.zero_add]
  obtain ⟨h1, h2⟩ := rootK_ok (A := A) (e := e)
  exact fla_root_any hev h2 (big_53 (root_big hA hk)) (big_53 (root_big hA h1))
end Go.Proofs.YtolghagbpnjpgaaGreatDoor

namespace Go.Proofs.YtolghagbpnjpgaaGreatDoor

theorem root_cut {Z m : Nat} : isq Z / 2 ^ m = isq (Z / (2 ^ m * 2 ^ m)) ∧ (decide (isq Z * isq Z ≠ Z) || decide (isq Z % 2 ^ m ≠ 0)) = (decide (Z % (2 ^ m * 2 ^ m) ≠ 0) || decide (isq (Z / (2 ^ m * 2 ^ m)) * isq (Z / (2 ^ m * 2 ^ m)) ≠ Z / (2 ^ m * 2 ^ m))) := by
  have hJ : 0 < 2 ^ m := Nat.pow_pos (by omega)
  generalize 2 ^ m = J at *
  have hJJ : 0 < J * J := Nat.mul_pos hJ hJ
  have hsq : ∀ c : Nat, c * c * (J * J) = (c * J) * (c * J) := fun c => by rw [Nat.mul_mul_mul_comm]
  have hL : ∀ c : Nat, c ≤ isq Z / J ↔ c ≤ isq (Z / (J * J)) := by
    intro c
    rw [Nat.le_div_iff_mul_le hJ, isq_le, isq_le, Nat.le_div_iff_mul_le hJJ, hsq]
  have hR : isq Z / J = isq (Z / (J * J)) := Nat.le_antisymm ((hL _).1 (Nat.le_refl _)) ((hL _).2 (Nat.le_refl _))
  refine ⟨hR, ?_⟩
  have hd := Nat.div_add_mod (isq Z) J
  have hz := Nat.div_add_mod Z (J * J)
  rw [hR] at hd
  rw [← Bool.decide_or, ← Bool.decide_or]
  apply decide_eq_decide.2
  constructor
  · intro h
    by_cases h1 : Z % (J * J) = 0
    · right
      intro h2
      rw [h1, Nat.add_zero, Nat.mul_comm, ← h2, hsq] at hz
      have h3 : isq Z = isq (Z / (J * J)) * J := by
        have h4 : isq ((isq (Z / (J * J)) * J) * (isq (Z / (J * J)) * J)) = isq (Z / (J * J)) * J := isq_sq _
        rw [hz] at h4
        exact h4
      rcases h with h | h
      · apply h; rw [h3, hz]
      · apply h; rw [h3]; exact Nat.mul_mod_left _ _
    · exact Or.inl h1
  · intro h
    by_cases h1 : isq Z % J = 0
    · left
      intro h2
      rw [h1, Nat.add_zero, Nat.mul_comm] at hd
      have h3 : Z = isq (Z / (J * J)) * isq (Z / (J * J)) * (J * J) := by rw [hsq, hd]; exact h2.symm
      rcases h with h | h
      · apply h; rw [h3]; exact Nat.mul_mod_left _ _
      · apply h
        have h5 : Z / (J * J) = isq (Z / (J * J)) * isq (Z / (J * J)) := by
          conv => lhs; rw [h3]
          exact Nat.mul_div_cancel _ hJJ
        exact h5.symm
    · exact Or.inr h1
/-- a root, and whether it is a little too small -/
structure RootG (A : Nat) (ea : Int) (r : Nat) (E : Int) (T : Bool) : Prop where
  r2 : 4611686018427387904 ≤ r
  r3 : r < 9223372036854775808
  val : ∃ a b : Nat, ea - (a : Int) + b = 2 * E ∧ r = isq (A * 2 ^ a / 2 ^ b) ∧ T = (decide (A * 2 ^ a % 2 ^ b ≠ 0) || decide (r * r ≠ A * 2 ^ a / 2 ^ b))
theorem RootG.fla {A r : Nat} {ea E : Int} {T : Bool} (h : RootG A ea r E T) (hA : A ≠ 0) (mode : Int) : fla false r E T mode = rootV (some ((A : Int), ea)) mode := by
  obtain ⟨r2, r3, a, b, hE, hr, hT⟩ := h
  have hp : 0 < 2 ^ b := Nat.pow_pos (by omega)
  have hZ : A * 2 ^ (a + b) = A * 2 ^ a * 2 ^ b := by rw [Nat.pow_add, Nat.mul_assoc]
  obtain ⟨c1, c2⟩ := root_cut (Z := A * 2 ^ (a + b)) (m := b)
  have d1 : A * 2 ^ (a + b) / (2 ^ b * 2 ^ b) = A * 2 ^ a / 2 ^ b := by rw [hZ, Nat.mul_div_mul_right _ _ hp]
  have d2 : decide (A * 2 ^ (a + b) % (2 ^ b * 2 ^ b) ≠ 0) = decide (A * 2 ^ a % 2 ^ b ≠ 0) := by
    rw [hZ, Nat.mul_mod_mul_right]
    apply decide_eq_decide.2
    constructor
    · intro h1 h2; exact h1 (by rw [h2, Nat.zero_mul])
    · intro h1 h2
      rcases Nat.mul_eq_zero.1 h2 with h3 | h3
      · exact h1 h3
      · omega
  rw [d1] at c1 c2
  rw [d2, ← hr, ← hT] at c2
  rw [← hr] at c1
  have h53 : 2 ^ 53 ≤ r := Nat.le_trans (by decide) r2
  have h1 := fla_tail false (N := isq (A * 2 ^ (a + b))) ((ea - ((a + b : Nat) : Int)) / 2) (decide (isq (A * 2 ^ (a + b)) * isq (A * 2 ^ (a + b)) ≠ A * 2 ^ (a + b))) mode b (by rw [c1]; exact h53)
  rw [c1, c2] at h1
  have e1 : (ea - ((a + b : Nat) : Int)) / 2 + (b : Int) = E := by omega
  rw [e1] at h1
  rw [h1]
  unfold rootV
  dsimp only
  rw [if_neg (by omega), if_neg (by omega), Int.natAbs_natCast]
  obtain ⟨k1, k2⟩ := rootK_ok (A := A) (e := ea)
  refine fla_root_any (by omega) k2 ?_ (big_53 (root_big hA k1))
  have h2 : r ≤ isq (A * 2 ^ (a + b)) := by rw [← c1]; exact Nat.div_le_self _ _
  exact Nat.le_trans h53 h2
theorem rootG_of {A j N k d r : Nat} {e ea E : Int} {t : Bool} (hN : N = A / 2 ^ j) (ht : t = decide (A % 2 ^ j ≠ 0)) (hk : t = true → k = 0) (he : e = ea + j) (hE : e - k + d = 2 * E) (hr : r = isq (N * 2 ^ k / 2 ^ d)) (r2 : 4611686018427387904 ≤ r) (r3 : r < 9223372036854775808) :
    RootG A ea r E (t || decide (N * 2 ^ k % 2 ^ d ≠ 0) || decide (r * r ≠ N * 2 ^ k / 2 ^ d)) := by
  have hj : 0 < 2 ^ j := Nat.pow_pos (by omega)
  have hd : 0 < 2 ^ d := Nat.pow_pos (by omega)
  have key : A * 2 ^ k / 2 ^ (j + d) = N * 2 ^ k / 2 ^ d ∧ decide (A * 2 ^ k % 2 ^ (j + d) ≠ 0) = (t || decide (N * 2 ^ k % 2 ^ d ≠ 0)) := by
    cases htt : t with
    | false =>
      rw [htt] at ht
      have h0 : A % 2 ^ j = 0 := by simpa using of_decide_eq_false ht.symm
      have hA : A = N * 2 ^ j := by
        have := Nat.div_add_mod A (2 ^ j)
        rw [h0, ← hN, Nat.add_zero, Nat.mul_comm] at this
        exact this.symm
      have e1 : A * 2 ^ k = N * 2 ^ k * 2 ^ j := by rw [hA]; exact Nat.mul_right_comm _ _ _
      have e2 : 2 ^ (j + d) = 2 ^ d * 2 ^ j := by rw [Nat.add_comm, Nat.pow_add]
      rw [e1, e2, Nat.mul_div_mul_right _ _ hj, Nat.mul_mod_mul_right, Bool.false_or]
      refine ⟨rfl, decide_eq_decide.2 ⟨fun h1 h2 => h1 (by rw [h2, Nat.zero_mul]), fun h1 h2 => ?_⟩⟩
      rcases Nat.mul_eq_zero.1 h2 with h3 | h3
      · exact h1 h3
      · omega
    | true =>
      rw [hk htt, Nat.pow_zero, Nat.mul_one, Nat.mul_one, hN, Nat.div_div_eq_div_mul, ← Nat.pow_add, Bool.true_or]
      refine ⟨rfl, decide_eq_true ?_⟩
      have h0 : A % 2 ^ j ≠ 0 := of_decide_eq_true (by rw [← ht, htt])
      intro h1
      apply h0
      rw [Nat.pow_add, Nat.mod_mul] at h1
      omega
  exact ⟨r2, r3, k, j + d, by omega, by rw [key.1]; exact hr, by rw [key.1, key.2]⟩
theorem isq_top {M d : Nat} (hd : d = 2 ∨ d = 3) (h0 : 2 ^ 127 ≤ M) (h1 : M < 2 ^ 128) : 2 ^ 124 ≤ M / 2 ^ d ∧ M / 2 ^ d < 2 ^ 126 ∧ 4611686018427387904 ≤ isq (M / 2 ^ d) ∧ isq (M / 2 ^ d) < 9223372036854775808 := by
  have a : 2 ^ 124 ≤ M / 2 ^ d ∧ M / 2 ^ d < 2 ^ 126 := by rcases hd with rfl | rfl <;> omega
  refine ⟨a.1, a.2, isq_le.2 (by omega), ?_⟩
  rcases Nat.lt_or_ge (isq (M / 2 ^ d)) 9223372036854775808 with h | h
  · exact h
  · have := isq_le.1 h
    omega
end Go.Proofs.YtolghagbpnjpgaaGreatDoor
