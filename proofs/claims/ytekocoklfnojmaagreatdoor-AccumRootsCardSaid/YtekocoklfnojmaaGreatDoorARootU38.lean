import Derived.Test.YtekocoklfnojmaaGreatDoorARootU26
import Derived.Deep.CutBlock
import Derived.Test.YtekocoklfnojmaaGreatDoorARootU35
import Derived.Test.YtekocoklfnojmaaGreatDoorARootU29
import Derived.Test.YtekocoklfnojmaaGreatDoorARootU28
import Derived.Test.YtekocoklfnojmaaGreatDoorARootU20
import Derived.Test.YtekocoklfnojmaaGreatDoorARootU37
import Derived.Test.YtekocoklfnojmaaGreatDoorARootU34
import Derived.Test.YtekocoklfnojmaaGreatDoorARootU36
import Derived.Test.YtekocoklfnojmaaGreatDoorARootU6
import Derived.Test.YtekocoklfnojmaaGreatDoorARootU19
import Derived.Test.YtekocoklfnojmaaGreatDoorARootU14
import Derived.Test.YtekocoklfnojmaaGreatDoorARootU15
import Derived.Test.YtekocoklfnojmaaGreatDoorARootU27
import Derived.Test.YtekocoklfnojmaaGreatDoorARootU22
namespace Go.Proofs.YtekocoklfnojmaaGreatDoor

/-- what the four roundings of a dyad with more bits are -/
structure NearBig (d lo hi near inn : Dy) (c : Int) : Prop where
  lo_ne : lo ≠ none
  hi_ne : hi ≠ none
  near_ne : near ≠ none
  lohi : lo ≠ hi
  a : sgn3 (sc lo) (sc d) = -1
  b : sgn3 (sc d) (sc hi) = -1
  below : dsub d lo ≠ none
  above : dsub hi d ≠ none
  cmp : sgn3 (sc (dsub d lo)) (sc (dsub hi d)) = c
  choice : c = -1 ∧ near = lo ∨ c = 1 ∧ near = hi ∨ c = 0 ∧ (near = lo ∨ near = hi)
  inward : dm d < 0 ∧ inn = hi ∨ 0 ≤ dm d ∧ inn = lo

end Go.Proofs.YtekocoklfnojmaaGreatDoor

namespace Go.Proofs.YtekocoklfnojmaaGreatDoor

/-- what the statement compares -/
structure QuoIs (a b lo hi : Dy) (p x y : Int) : Prop where
  lon : lo ≠ none
  hin : hi ≠ none
  lob : (blen (dm lo).natAbs : Int) ≤ p
  hib : (blen (dm hi).natAbs : Int) ≤ p
  lom : dmul lo b ≠ none
  him : dmul hi b ≠ none
  cx : sgn3 (sc (dmul lo b)) (sc a) = x
  cy : sgn3 (sc a) (sc (dmul hi b)) = y
  xle : ¬ 0 < x
  yle : ¬ 0 < y
  same : lo = hi ↔ x = 0
  both : x = 0 ↔ y = 0

end Go.Proofs.YtekocoklfnojmaaGreatDoor

namespace Go.Proofs.YtekocoklfnojmaaGreatDoor

theorem isq_ex (N : Nat) : ∃ s, s * s ≤ N ∧ N < (s + 1) * (s + 1) := by
  induction N with
  | zero => exact ⟨0, by omega, by omega⟩
  | succ n ih =>
    obtain ⟨s, h1, h2⟩ := ih
    by_cases h : n + 1 < (s + 1) * (s + 1)
    · exact ⟨s, by omega, h⟩
    · refine ⟨s + 1, by omega, ?_⟩
      have e : (s + 1 + 1) * (s + 1 + 1) = (s + 1) * (s + 1) + 2 * (s + 1) + 1 := by rw [Nat.add_mul (s + 1) 1, Nat.mul_add (s + 1) (s + 1) 1]; omega
      omega
/-- the root without its fraction -/
noncomputable def isq (N : Nat) : Nat := (isq_ex N).choose
theorem isq_spec (N : Nat) : isq N * isq N ≤ N ∧ N < (isq N + 1) * (isq N + 1) := (isq_ex N).choose_spec
theorem isq_le {N a : Nat} : a ≤ isq N ↔ a * a ≤ N := by
  obtain ⟨h1, h2⟩ := isq_spec N
  constructor
  · intro h; exact Nat.le_trans (Nat.mul_le_mul h h) h1
  · intro h
    rcases Nat.lt_or_ge (isq N) a with h3 | h3
    · have := Nat.mul_le_mul (show isq N + 1 ≤ a from h3) (show isq N + 1 ≤ a from h3)
      omega
    · exact h3
theorem isq_of {N s : Nat} (h1 : s * s ≤ N) (h2 : N < (s + 1) * (s + 1)) : s = isq N := by
  have a := isq_le.2 h1
  rcases Nat.lt_or_ge s (isq N) with h | h
  · have := isq_le.1 (show s + 1 ≤ isq N from h)
    omega
  · omega
theorem isq_sq (a : Nat) : isq (a * a) = a := by
  refine (isq_of (Nat.le_refl _) ?_).symm
  have e : (a + 1) * (a + 1) = a * a + 2 * a + 1 := by rw [Nat.add_mul a 1, Nat.mul_add a a 1]; omega
  omega

/-- what the statement compares -/
structure RootIs (a lo hi : Dy) (x y : Int) : Prop where
  lon : lo ≠ none
  hin : hi ≠ none
  lob : blen (dm lo).natAbs ≤ 80
  hib : blen (dm hi).natAbs ≤ 80
  lom : dmul lo lo ≠ none
  him : dmul hi hi ≠ none
  cx : sgn3 (sc (dmul lo lo)) (sc a) = x
  cy : sgn3 (sc a) (sc (dmul hi hi)) = y
  xle : ¬ 0 < x
  yle : ¬ 0 < y
  same : lo = hi ↔ x = 0

end Go.Proofs.YtekocoklfnojmaaGreatDoor

namespace Go.Proofs.YtekocoklfnojmaaGreatDoor

theorem root_more {M j : Nat} : isq (M * (2 ^ j * 2 ^ j)) / 2 ^ j = isq M ∧ (decide (isq (M * (2 ^ j * 2 ^ j)) * isq (M * (2 ^ j * 2 ^ j)) ≠ M * (2 ^ j * 2 ^ j)) || decide (isq (M * (2 ^ j * 2 ^ j)) % 2 ^ j ≠ 0)) = decide (isq M * isq M ≠ M) := by
  have hJ : 0 < 2 ^ j := Nat.pow_pos (by omega)
  generalize 2 ^ j = J at *
  have hsq : ∀ c : Nat, c * c * (J * J) = (c * J) * (c * J) := fun c => by rw [Nat.mul_mul_mul_comm]
  have hJJ : 0 < J * J := Nat.mul_pos hJ hJ
  have hL : ∀ c : Nat, c ≤ isq (M * (J * J)) / J ↔ c ≤ isq M := by
    intro c
    rw [Nat.le_div_iff_mul_le hJ, isq_le, isq_le, ← hsq]
    exact ⟨fun h => Nat.le_of_mul_le_mul_right h hJJ, fun h => Nat.mul_le_mul_right _ h⟩
  have hR : isq (M * (J * J)) / J = isq M := Nat.le_antisymm ((hL _).1 (Nat.le_refl _)) ((hL _).2 (Nat.le_refl _))
  refine ⟨hR, ?_⟩
  rw [← Bool.decide_or]
  apply decide_eq_decide.2
  constructor
  · intro h h2
    have h3 : M * (J * J) = (isq M * J) * (isq M * J) := by rw [← hsq, h2]
    have h4 : isq (M * (J * J)) = isq M * J := by rw [h3, isq_sq]
    rcases h with h | h
    · apply h; rw [h4, h3]
    · apply h; rw [h4]; exact Nat.mul_mod_left _ _
  · intro h
    by_cases h2 : isq (M * (J * J)) % J = 0
    · left
      intro h3
      have hd := Nat.div_add_mod (isq (M * (J * J))) J
      rw [h2, hR, Nat.add_zero, Nat.mul_comm] at hd
      rw [← hd, ← hsq] at h3
      exact h (Nat.eq_of_mul_eq_mul_right hJJ h3)
    · exact Or.inr h2
theorem fla_root {neg : Bool} {M j : Nat} {E mode : Int} (h : 2 ^ 53 ≤ isq M) :
    fla neg (isq (M * (2 ^ j * 2 ^ j))) E (decide (isq (M * (2 ^ j * 2 ^ j)) * isq (M * (2 ^ j * 2 ^ j)) ≠ M * (2 ^ j * 2 ^ j))) mode = fla neg (isq M) (E + j) (decide (isq M * isq M ≠ M)) mode := by
  obtain ⟨h1, h2⟩ := root_more (M := M) (j := j)
  have h3 := fla_tail neg (N := isq (M * (2 ^ j * 2 ^ j))) E (decide (isq (M * (2 ^ j * 2 ^ j)) * isq (M * (2 ^ j * 2 ^ j)) ≠ M * (2 ^ j * 2 ^ j))) mode j (by rw [h1]; exact h)
  rw [h1, h2] at h3
  exact h3.symm
/-- the program's root of a float is the reference's longer one -/
theorem root_long {neg : Bool} {mode : Int} {N A i s k : Nat} {E e : Int} (hN : N = A * 2 ^ i) (hexp : 2 * E + s = e) (hev : (e + i - (k : Int)) % 2 = 0) (h1 : 2 ^ 53 ≤ isq (N * 2 ^ s)) (h2 : 2 ^ 53 ≤ isq (A * 2 ^ k)) :
    fla neg (isq (N * 2 ^ s)) E (decide (isq (N * 2 ^ s) * isq (N * 2 ^ s) ≠ N * 2 ^ s)) mode = fla neg (isq (A * 2 ^ k)) ((e + i - (k : Int)) / 2) (decide (isq (A * 2 ^ k) * isq (A * 2 ^ k) ≠ A * 2 ^ k)) mode := by
  have e1 : N * 2 ^ s = A * 2 ^ (i + s) := by rw [hN, Nat.mul_assoc, ← Nat.pow_add]
  rw [e1] at h1 ⊢
  rcases Nat.le_total k (i + s) with h | h
  · obtain ⟨j, hj⟩ : ∃ j, i + s = k + (j + j) := ⟨(i + s - k) / 2, by omega⟩
    have e2 : A * 2 ^ (i + s) = A * 2 ^ k * (2 ^ j * 2 ^ j) := by rw [hj, Nat.pow_add, ← Nat.mul_assoc, Nat.pow_add 2 j j]
    rw [e2, fla_root h2]
    congr 1
    omega
  · obtain ⟨j, hj⟩ : ∃ j, k = i + s + (j + j) := ⟨(k - (i + s)) / 2, by omega⟩
    have e2 : A * 2 ^ k = A * 2 ^ (i + s) * (2 ^ j * 2 ^ j) := by rw [hj, Nat.pow_add, ← Nat.mul_assoc, Nat.pow_add 2 j j]
    rw [e2, fla_root h1]
    congr 1
    omega
end Go.Proofs.YtekocoklfnojmaaGreatDoor

namespace Go.Proofs.YtekocoklfnojmaaGreatDoor

theorem root_big {A k : Nat} (hA : A ≠ 0) (hk : 2 * ((60 : Nat) : Int) + 4 - (blen A : Int) ≤ (k : Nat)) : 2 ^ 61 ≤ isq (A * 2 ^ k) := by
  rw [isq_le, ← Nat.pow_add]
  have h2 : 2 ^ (blen A - 1) ≤ A := by
    have := Nat.log2_self_le hA
    have e : blen A - 1 = Nat.log2 A := by unfold blen; rw [if_neg hA]; omega
    rw [e]; exact this
  have hb : 1 ≤ blen A := by unfold blen; rw [if_neg hA]; omega
  refine Nat.le_trans ?_ (Nat.mul_le_mul_right _ h2)
  rw [← Nat.pow_add]
  exact Nat.pow_le_pow_right (by omega) (by omega)
theorem big_53 {Q : Nat} (h : 2 ^ 61 ≤ Q) : 2 ^ 53 ≤ Q := Nat.le_trans (Nat.pow_le_pow_right (by omega) (by omega)) h
/-- two lengths of a root that suffice give the same float -/
theorem fla_root_any {neg : Bool} {mode : Int} {A k k' : Nat} {e : Int} (hev : (e - (k : Int)) % 2 = 0) (hev' : (e - (k' : Int)) % 2 = 0) (h : 2 ^ 53 ≤ isq (A * 2 ^ k)) (h' : 2 ^ 53 ≤ isq (A * 2 ^ k')) :
    fla neg (isq (A * 2 ^ k)) ((e - (k : Int)) / 2) (decide (isq (A * 2 ^ k) * isq (A * 2 ^ k) ≠ A * 2 ^ k)) mode = fla neg (isq (A * 2 ^ k')) ((e - (k' : Int)) / 2) (decide (isq (A * 2 ^ k') * isq (A * 2 ^ k') ≠ A * 2 ^ k')) mode := by
  have h3 := root_long (neg := neg) (mode := mode) (N := A) (A := A) (i := 0) (s := k) (k := k') (E := (e - (k : Int)) / 2) (e := e) (by omega) (by omega) (by omega) h h'
  rw [h3]
  congr 1
  omega
/-- how far a root is taken -/
def rootK (A : Nat) (e : Int) : Nat := 126 - blen A + ((e - ((126 - blen A : Nat) : Int)) % 2).toNat
theorem rootK_ok {A : Nat} {e : Int} : 2 * ((60 : Nat) : Int) + 4 - (blen A : Int) ≤ (rootK A e : Nat) ∧ (e - (rootK A e : Int)) % 2 = 0 := by
  unfold rootK; omega
/-- the root of a dyad, as a float -/
noncomputable def rootV (d : Dy) (mode : Int) : Nat :=
  match d with
  | some (m, e) =>
    if m < 0 then 9221120237041090560
    else if m = 0 then 0
    else fla false (isq (m.natAbs * 2 ^ rootK m.natAbs e)) ((e - (rootK m.natAbs e : Int)) / 2) (decide (isq (m.natAbs * 2 ^ rootK m.natAbs e) * isq (m.natAbs * 2 ^ rootK m.natAbs e) ≠ m.natAbs * 2 ^ rootK m.natAbs e)) mode
  | none => 9221120237041090560
end Go.Proofs.YtekocoklfnojmaaGreatDoor

namespace Go.Proofs.YtekocoklfnojmaaGreatDoor

theorem fin_small {g : Nat} (h : g < 9223372036854775808) : finB g = decide (g < 9218868437227405312) := by
  have h4 : fmag g = g := Nat.mod_eq_of_lt h
  unfold finB
  rw [h4]
theorem dot_err (x : List Nat) : (dotR x x).2 = 0 ∨ (dotR x x).2 = 4 := by
  unfold dotR
  rw [if_neg (by omega)]
  unfold chkE
  split
  · exact Or.inr rfl
  · exact Or.inl rfl
/-- the root of the sum of squares -/
noncomputable def norm2 (l : List Nat) (mode : Int) : Nat := if (dotR l l).2 = 0 then rootV (dotR l l).1 mode else 9221120237041090560
end Go.Proofs.YtekocoklfnojmaaGreatDoor

namespace Go.Proofs.YtekocoklfnojmaaGreatDoor
open Go.RowKit

theorem and_one_i64 (e : Int) : bits BinOp.and IntKind.i64 e 1 = e % 2 := by
  have h1 : (BitVec.ofInt 64 e).toNat = (e % 18446744073709551616).toNat := by
    rw [BitVec.toNat_ofInt]; rfl
  have h2 : (BitVec.ofInt 64 (1 : Int)).toNat = 1 := by decide
  show IntKind.i64.wrap ((BitVec.ofInt 64 e &&& BitVec.ofInt 64 1).toNat : Int) = _
  rw [BitVec.toNat_and, h1, h2, Nat.and_one_is_mod, IntKind.wrap_i64]
  omega

/-- a root's number: what is under it, and where -/
structure RootOf (N : Nat) (e : Int) (M hi lo r : Nat) (E : Int) (s : Nat) : Prop where
  val : M = N * 2 ^ s
  exp : 2 * E + s = e
  words : hi * 18446744073709551616 + lo = M
  hlo : lo < 18446744073709551616
  hi0 : 1152921504606846976 ≤ hi
  hi1 : hi < 4611686018427387904
  r0 : r * r ≤ M
  r1 : M < (r + 1) * (r + 1)
  r2 : 4611686018427387904 ≤ r
  r3 : r < 9223372036854775808

theorem div_at {hi lo r : Nat} (hl : lo < 18446744073709551616) (h0 : hi ≠ 0) (h1 : hi < 4611686018427387904) (hr : 4611686018427387904 ≤ r) (hr2 : r ≤ 9223372036854775808) (w : World) :
    Calls Tryz.prog 164 #[.int .u64 (hi : Int), .int .u64 (lo : Int), .int .u64 (r : Int)] w fun e w' => e = .returned (.tuple #[.int .u64 (((hi * 18446744073709551616 + lo) / r : Nat) : Int), .int .u64 (((hi * 18446744073709551616 + lo) % r : Nat) : Int)]) ∧ w = w' := by
  by_cases h : r = 9223372036854775808
  · exact div64_any hi lo r 0 (by omega) h0 hl (by rw [h]; decide) (by rw [h]; decide) (by omega) w
  · exact div64_any hi lo r 1 (by omega) h0 hl (show 2 ^ 62 ≤ r from hr) (show r < 2 ^ 63 by omega) (by omega) w

set_option maxRecDepth 100000 in
set_option maxHeartbeats 2000000 in
theorem wordRoot_any {hi lo s : Nat} (hl : lo < 18446744073709551616) (h0 : 1152921504606846976 ≤ hi) (h1 : hi < 4611686018427387904) (r1 : s * s ≤ hi * 18446744073709551616 + lo) (r2 : hi * 18446744073709551616 + lo < (s + 1) * (s + 1)) (b1 : 4611686018427387904 ≤ s) (b2 : s < 9223372036854775808) (w : World) :
    Calls Tryz.prog 180 #[.int .u64 (hi : Int), .int .u64 (lo : Int)] w fun e w' => e = .returned (.int .u64 (s : Int)) ∧ w = w' := by
  have CD := Lib.hid (fun r (hr : s ≤ r) (hr2 : r ≤ 9223372036854775808) w => div_at (hi := hi) (lo := lo) (r := r) hl (by omega) h1 (by omega) hr2 w)
  have NE := Lib.hid (fun r (hs : s ≤ r) (hq : r ≤ (hi * 18446744073709551616 + lo) / r) => newton_end (N := hi * 18446744073709551616 + lo) (r := r) r2 hs (by omega) hq)
  have NS := Lib.hid (fun r (hs : s ≤ r) (hq : (hi * 18446744073709551616 + lo) / r < r) => newton_down (N := hi * 18446744073709551616 + lo) (r := r) r1 hs (by omega) hq)
  clear r1 r2 hl h0 h1
  go_enter Tryz.func180, Tryz.ntmps180
  go_wp2
  go_loopw [5] (fun q wx => ∃ r : Nat, q = .int .u64 (r : Int) ∧ s ≤ r ∧ r ≤ 9223372036854775808 ∧ w = wx) (fun q _ => (intOf q).toNat)
  case atStart => exact ⟨9223372036854775808, rfl, by omega, by omega, rfl⟩
  case round =>
    obtain ⟨r, rfl, h3, h4, rfl⟩ := hrel
    obtain ⟨Q, hQ⟩ : ∃ Q, (hi * 18446744073709551616 + lo) / r = Q := ⟨_, rfl⟩
    have CD1 := CD.out r h3 h4
    have NE1 := NE.out r h3
    have NS1 := NS.out r h3
    rw [hQ] at CD1 NE1 NS1
    have CD1 := Lib.hid CD1
    have NE1 := Lib.hid NE1
    have NS1 := Lib.hid NS1
    clear hQ
    by_cases hq : r ≤ Q
    · have hqi : (r : Int) ≤ (Q : Int) := by omega
      have HE := Lib.hid (NE1.out hq)
      clear hq
      go_wp2_with fail
      refine (CD1.out _).mono ?_
      rintro e w1 ⟨rfl, rfl⟩
      go_wp2
      go_ret
      refine ⟨?_, rfl⟩
      show Ending.returned (.int .u64 (r : Int)) = _
      rw [HE.out]
    · have hqi : ¬ (r : Int) ≤ (Q : Int) := by omega
      obtain ⟨k1, k2⟩ := NS1.out (by omega)
      have hw : IntKind.u64.wrap ((r : Int) + (Q : Int)) = (r : Int) + (Q : Int) := by rw [IntKind.wrap_u64]; omega
      have hd : ((r : Int) + (Q : Int)) / 2 = (((r + Q) / 2 : Nat) : Int) := by omega
      have HD := Lib.hid hd
      clear hd
      generalize (r + Q) / 2 = r' at *
      clear hq
      go_wp2_with fail
      refine (CD1.out _).mono ?_
      rintro e w1 ⟨rfl, rfl⟩
      go_wp2
      go_roundw
      case rel => exact ⟨r', by first | rfl | exact congrArg (Value.int IntKind.u64) HD.out, k1, by omega, by first | rfl | trivial⟩
      case measure => simp [intOf]; omega

end Go.Proofs.YtekocoklfnojmaaGreatDoor

namespace Go.Proofs.YtekocoklfnojmaaGreatDoor
open Go.RowKit

theorem Dn.num {w : World} {bb nb : Bool} {ao : Option Addr} {n ca : Nat} {f : Int} {d : Dy} (h : Dn w (.agg #[.bool bb, .bool nb, .slice ao n ca, .int .i64 f]) d) : bb = d.isNone ∧ f = dx d ∧ Bn w nb ao n ca (dm d) := h.get

set_option maxRecDepth 100000 in
set_option maxHeartbeats 2000000 in
theorem kitDyad_same (u v : Value) (d : Dy) (w : World) (hu : Dn w u d) (hv : Dn w v d) :
    Calls Tryz.prog 123 #[u, v] w fun e w' => e = .returned (.bool true) ∧ Ext w w' := by
  obtain ⟨ub, un, uo, uk, uc, uf, rfl⟩ := hu.parts
  obtain ⟨vb, vn, vo, vk, vc, vf, rfl⟩ := hv.parts
  obtain ⟨a1, a2, hm⟩ := hu.get
  obtain ⟨b1, b2, hm'⟩ := hv.get
  clear hu hv
  obtain rfl : ub = vb := a1.trans b1.symm
  obtain rfl : uf = vf := a2.trans b2.symm
  clear a1 a2 b1 b2
  go_enter Tryz.func123, Tryz.ntmps123
  go_upto_region 1 with fail
  obtain ⟨W, hW, hB, hbx, hby, hz⟩ := boxes_two_d w ub un uo uk uc uf ub vn vo vk vc uf
  rw [← hW]
  clear hW
  have hm := hm.below hB
  have hm' := hm'.below hB
  have HB := Lib.hid (show Ext w W from hB)
  clear hB
  generalize w.heap.size = B at *
  generalize dm d = m at *
  have k0 := hbx.c0
  have k1 := hbx.c1
  have k2 := hbx.c2
  have k3 := hbx.c3
  have l0 := hby.c0
  have l1 := hby.c1
  have l2 := hby.c2
  have l3 := hby.c3
  go_wp2_with fail
  refine (big_eq _ _ _ _ _ _ _ _ _ _ _ hm hm' rfl).mono ?_
  rintro e w1 ⟨rfl, hw1⟩
  go_wp2
  go_ret
  exact ⟨rfl, HB.out.trans hw1⟩

end Go.Proofs.YtekocoklfnojmaaGreatDoor

namespace Go.Proofs.YtekocoklfnojmaaGreatDoor
open Go.RowKit

theorem limb_one (k : Nat) (h : k < 4294967296) (h0 : k ≠ 0) : limbs k = [(k : Int)] := by
  rw [limbs_pos h0, show k / 4294967296 = 0 by omega, limbs_zero, Nat.mod_eq_of_lt h]

/-- a limb in a new block -/
theorem limb_made (w : World) (k : Nat) (h : k < 4294967296) (h0 : k ≠ 0) :
    ∃ W, W = w.alloc (.cells #[.int .u32 (k : Int)] 101) ∧ Ext w W ∧ Bn W false (some ⟨w.heap.size, 0, none⟩) 1 1 (k : Int) := by
  refine ⟨_, rfl, (Below.refl _ w).alloc (Nat.le_refl _) _, by simp, ?_⟩
  have hb : Blk (w.alloc (.cells #[.int .u32 (k : Int)] 101)) w.heap.size [(k : Int)] := heap_alloc_new w _
  rw [Int.natAbs_natCast, limb_one k h h0]
  exact hb.sl (Wf.cons ⟨by omega, by omega⟩ Wf.nil) rfl (by omega) (Nat.le_refl _)

theorem dn_lit {w : World} {nb : Bool} {ao : Option Addr} {n ca : Nat} {m f : Int} (h : Bn w nb ao n ca m) (h0 : Nd (some (m, f))) : Dn w (.agg #[.bool false, .bool nb, .slice ao n ca, .int .i64 f]) (some (m, f)) := ⟨h0, nb, ao, n, ca, rfl, h⟩

end Go.Proofs.YtekocoklfnojmaaGreatDoor

namespace Go.Proofs.YtekocoklfnojmaaGreatDoor
open Go.RowKit

/-- a value, the dyad that it reads as, is it normalized -/
structure DEnt where
  v : Value
  d : Dy
  c : Bool

def DEnt.Ok (w : World) (p : DEnt) : Prop := Dg w p.v p.d ∧ (p.c = true → Dn w p.v p.d)

theorem DEnt.Ok.ext {w w' : World} {p : DEnt} (h : p.Ok w) (he : Ext w w') : p.Ok w' := ⟨h.1.ext he, fun e => (h.2 e).ext he⟩
/-- what is at hand -/
structure DSt (W w : World) (L : List DEnt) : Prop where
  ext : Ext W w
  tab : Table w
  bag : ∀ p ∈ L, p.Ok w

theorem DSt.step {W w w' : World} {L : List DEnt} (h : DSt W w L) (he : Ext w w') : DSt W w' L := ⟨h.ext.trans he, h.tab.below he, fun p hp => (h.bag p hp).ext he⟩
theorem DSt.push {W w w' : World} {L : List DEnt} (h : DSt W w L) (he : Ext w w') {p : DEnt} (hp : p.Ok w') : DSt W w' (p :: L) :=
  ⟨h.ext.trans he, h.tab.below he, fun q hq => by
    rcases List.mem_cons.1 hq with rfl | hq
    · exact hp
    · exact (h.bag q hq).ext he⟩
theorem DSt.drew {W w : World} {L : List DEnt} (h : DSt W w L) : DSt W w.drew L := h.step (Below.refl _ _).drew
theorem DSt.alloc {W w : World} {L : List DEnt} (h : DSt W w L) (o : Obj) : DSt W (w.alloc o) L := h.step ((Below.refl _ w).alloc (Nat.le_refl _) o)
theorem DSt.dn {W w : World} {L : List DEnt} {v : Value} {d : Dy} (h : DSt W w L) (h1 : ⟨v, d, true⟩ ∈ L) : Dn w v d := (h.bag _ h1).2 rfl

section
variable {W w : World} {L : List DEnt} {u v : Value} {d d' : Dy} {c c' : Bool}

end
end Go.Proofs.YtekocoklfnojmaaGreatDoor
