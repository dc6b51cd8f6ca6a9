import Derived.Test.YtecaaklbhhjcjaaGreatDoorCards
import Derived.Test.YtecaaklbhhjcjaaGreatDoorTie
import Derived.Test.YtecaaklbhhjcjaaGreatDoorIRelU0
import Derived.WalkKit
import Derived.ProofKit
import Derived.OpenShut
import Derived.Deep.DeepHandedRow
import Derived.Lib.LaidTab
import Derived.Lib.SmallJoins
import Derived.LaidMore
import Derived.Test.YtecaaklbhhjcjaaGreatDoorRows
import Derived.WalkSpells
import Derived.WalkLawsBesides
import Derived.Shelf.Spec.TrailingZeros
namespace Go.Proofs.YtecaaklbhhjcjaaGreatDoor
open Go.ChangeShapes Go.WideShapes Go.ChangeAt Go.RowKit Go.Joins

theorem Tryz.own : ownKnob Tryz.prog.godebug = none := by kernel_rfl
theorem Tryz.laidOut : laidOutB Tryz.prog = true := by kernel_rfl
theorem Tryz.cellsBig : Tryz.prog.cellsOf 24 = 2 := by kernel_rfl
theorem Tryz.cellsU32 : Tryz.prog.cellsOf 63 = 1 := by kernel_rfl
theorem wf_u32 {z : Int} (h : (Lit.int .u32 z).wf = true) : 0 ≤ z ∧ z < 4294967296 := by
  have := bounds_u32 h
  omega

end Go.Proofs.YtecaaklbhhjcjaaGreatDoor

namespace Go.Proofs.YtecaaklbhhjcjaaGreatDoor
open Go.RowKit

set_option maxHeartbeats 400000 in
theorem trim_any (ao : Option Addr) (n cap : Nat) (zs : List Int) (w : World) (hl : zs.length = n) (hn : n ≤ 1099511627776) (hcap : n ≤ cap) (ha : At w ao zs) :
    Calls Tryz.prog 58 #[.slice ao n cap] w fun e w' => e = .returned (.slice ao (tlen zs n) cap) ∧ w = w' := by
  have HL := Lib.hid hl; clear hl
  go_enter Tryz.func58, Tryz.ntmps58
  go_wp2
  go_loop [3] (fun i => ∃ k : Nat, k ≤ n ∧ i = .int .i64 k ∧ tlen zs n = tlen zs k) (fun i => (intOf i).toNat)
  case atStart => exact ⟨n, Nat.le_refl _, rfl, rfl⟩
  case round =>
    obtain ⟨k, hk, rfl, ht⟩ := hrel
    have HT := Lib.hid ht; clear ht
    by_cases h0 : 0 < k
    · obtain ⟨m, rfl⟩ : ∃ m, k = m + 1 := ⟨k - 1, by omega⟩
      obtain ⟨b, off, rfl, hc⟩ := ha (by rw [HL.out]; omega)
      have hcell := hc m (by rw [HL.out]; omega)
      clear hc ha
      go_wp2
      · have h1 : (zs[m]?.getD 0 == 0) = true := by assumption
        go_round
        case rel => exact ⟨m, by omega, by go_num, by rw [HT.out, tlen, if_pos (by simpa [List.getD] using h1)]⟩
        case measure => simp [intOf]
      · have h1 : (zs[m]?.getD 0 == 0) = false := by assumption
        go_ret
        refine ⟨?_, rfl⟩
        rw [HT.out, tlen, if_neg (by simpa [List.getD] using h1)]; rfl
    · obtain rfl : k = 0 := by omega
      clear ha
      go_wp2
      go_ret
      refine ⟨?_, rfl⟩
      rw [HT.out]; rfl

/-- trim gives the limbs of the number, in the same world -/
theorem trim_sl (ao : Option Addr) (n cap : Nat) (zs : List Int) (w : World) (h : Sl w ao n cap zs) :
    Calls Tryz.prog 58 #[.slice ao n cap] w fun e w' => ∃ k, e = .returned (.slice ao k cap) ∧ Sl w ao k cap (limbs (num zs).toNat) ∧ w = w' :=
  (trim_any ao n cap zs w h.len h.big h.cap h.cells).mono fun _ _ ⟨he, hw⟩ => ⟨_, he, h.trim, hw⟩

/-- the same length in every world -/
theorem trim_at (ao : Option Addr) (n cap : Nat) (zs : List Int) (w : World) (h : Sl w ao n cap zs) :
    ∃ k, k ≤ n ∧ Sl w ao k cap (limbs (num zs).toNat) ∧ ∀ W, Sl W ao n cap zs → Calls Tryz.prog 58 #[.slice ao n cap] W fun e w' => e = .returned (.slice ao k cap) ∧ W = w' :=
  ⟨_, tlen_le _ _, h.trim, fun W hW => trim_any ao n cap zs W hW.len hW.big hW.cap hW.cells⟩
end Go.Proofs.YtecaaklbhhjcjaaGreatDoor

namespace Go.Proofs.YtecaaklbhhjcjaaGreatDoor
open Go.RowKit

/-- the table that bits.TrailingZeros32 reads -/
def Table (w : World) : Prop := TabAt 4 Lib.deBruijn32tab w

theorem Table.below {w w' : World} (h : Table w) (hb : Below w.heap.size w w') : Table w' := by
  intro j hj
  have h1 := h j hj
  rw [hb.cell (p := ⟨_, j, none⟩) (lt_of_cell h1)]
  exact h1

set_option maxRecDepth 100000 in
set_option maxHeartbeats 1000000 in
theorem tz32_at (x k idx : Nat) (w : World) (hx0 : ((x : Int) == 0) = false)
    (key : bits BinOp.and IntKind.u32 (x : Int) (-(x : Int) % 4294967296) * 125613361 % 4294967296 / 134217728 = (idx : Int))
    (hi : idx < 32) (hk : k < 32) (hcell : w.cell? ⟨4, idx, none⟩ = some (.int .u8 k)) :
    Calls Tryz.prog 249 #[.int .u32 x] w fun e w' => e = .returned (.int .i64 k) ∧ w = w' := by
  go_enter Tryz.func249, Tryz.ntmps249
  go_wp2_with (simp only [key])
  go_ret
  exact ⟨rfl, rfl⟩

theorem ctz_lt {x : Nat} (h : x ≠ 0) (h1 : x < 4294967296) : Lib.ctz 32 x < 32 := (Lib.lowest_bit 32 x h h1).2

theorem tz32_any (x : Nat) (h0 : x ≠ 0) (h1 : x < 4294967296) (w : World) (hT : Table w) :
    Calls Tryz.prog 249 #[.int .u32 x] w fun e w' => e = .returned (.int .i64 (Lib.ctz 32 x)) ∧ w = w' := by
  obtain ⟨hlow, hk⟩ := Lib.lowest_bit 32 x h0 h1
  obtain ⟨hi, htab⟩ := Lib.deBruijn32_at _ hk
  have hcell := hT _ hi
  rw [htab] at hcell
  exact tz32_at x _ _ w (by simp; omega) (tz32_key x _ h1 h0 hlow) hi hk hcell

/-- the number of trailing zeros -/
def IsTz (a t : Nat) : Prop := (a = 0 ∧ t = 0) ∨ (a ≠ 0 ∧ ∃ m, a = 2 ^ t * (2 * m + 1))

theorem odd_unique {s t m n : Nat} (h : 2 ^ s * (2 * m + 1) = 2 ^ t * (2 * n + 1)) : s = t := by
  induction s generalizing t with
  | zero =>
    rcases t with _ | t
    · rfl
    · exfalso
      rw [Nat.pow_zero, Nat.one_mul, Nat.pow_succ, Nat.mul_assoc, Nat.mul_left_comm] at h
      omega
  | succ s ih =>
    rcases t with _ | t
    · exfalso
      rw [Nat.pow_zero, Nat.one_mul, Nat.pow_succ, Nat.mul_assoc, Nat.mul_left_comm] at h
      omega
    · rw [Nat.pow_succ, Nat.mul_assoc, Nat.mul_left_comm, Nat.pow_succ, Nat.mul_assoc (2 ^ t), Nat.mul_left_comm (2 ^ t)] at h
      have := ih (t := t) (by omega)
      omega

theorem IsTz.unique {a s t : Nat} (h : IsTz a s) (k : IsTz a t) : s = t := by
  rcases h with ⟨h0, rfl⟩ | ⟨h0, m, hm⟩
  · rcases k with ⟨_, rfl⟩ | ⟨k0, _⟩
    · rfl
    · exact absurd h0 k0
  · rcases k with ⟨k0, _⟩ | ⟨_, n, hn⟩
    · exact absurd k0 h0
    · exact odd_unique (hm.symm.trans hn)

theorem IsTz.mul {a t : Nat} (h : IsTz a t) (h0 : a ≠ 0) (k : Nat) : IsTz (a * 2 ^ k) (t + k) := by
  rcases h with ⟨e, _⟩ | ⟨_, m, hm⟩
  · exact absurd e h0
  · refine Or.inr ⟨Nat.mul_ne_zero h0 (by simp), m, ?_⟩
    rw [hm, Nat.pow_add, Nat.mul_right_comm]

theorem IsTz.dvd {a t : Nat} (h : IsTz a t) (h0 : a ≠ 0) (k : Nat) : t < k ↔ a % 2 ^ k ≠ 0 := by
  rcases h with ⟨e, _⟩ | ⟨_, m, hm⟩
  · exact absurd e h0
  · constructor
    · intro hk hz
      obtain ⟨q, hq⟩ := Nat.dvd_of_mod_eq_zero hz
      rw [hm, show k = t + (k - t - 1 + 1) by omega, Nat.pow_add, Nat.mul_assoc] at hq
      have := Nat.eq_of_mul_eq_mul_left (Nat.pos_of_ne_zero (by simp)) hq
      rw [Nat.pow_succ, Nat.mul_comm (2 ^ (k - t - 1)) 2, Nat.mul_assoc] at this
      omega
    · intro hz
      rcases Nat.lt_or_ge t k with h | h
      · exact h
      · exfalso
        apply hz
        apply Nat.mod_eq_zero_of_dvd
        rw [hm, show t = k + (t - k) by omega, Nat.pow_add, Nat.mul_assoc]
        exact Nat.dvd_mul_right _ _

/-- the first limb that is not zero tells -/
theorem tz_limbs {a j x : Nat} (hz : ∀ i, i < j → (limbs a).getD i 0 = 0) (hx : (limbs a).getD j 0 = (x : Int)) (hx0 : x ≠ 0) (hx1 : x < 4294967296) (hj : j < (limbs a).length) : IsTz a (j * 32 + Lib.ctz 32 x) := by
  have hpj : (0 : Nat) < 4294967296 ^ j := Nat.pos_of_ne_zero (by simp)
  have hlow : num ((limbs a).take j) = 0 := by
    have : ∀ k, k ≤ j → num ((limbs a).take k) = 0 := by
      intro k
      induction k with
      | zero => intro _; simp [num]
      | succ k ih => intro hk; rw [num_take_succ _ _ (by omega), ih (by omega), hz k (by omega)]; simp
    exact this j (Nat.le_refl _)
  have e := num_append ((limbs a).take j) ((limbs a).drop j)
  rw [List.take_append_drop, List.length_take, Nat.min_eq_left (by omega), hlow, num_limbs, List.drop_eq_getElem_cons hj, num, ← getD_at hj, hx] at e
  have hwd := num_nonneg ((Wf.limbs a).drop (j + 1))
  obtain ⟨q, hq⟩ := Int.eq_ofNat_of_zero_le hwd
  rw [hq] at e
  have e2 : a = 4294967296 ^ j * (x + 4294967296 * q) := by
    apply Int.ofNat.inj
    show (a : Int) = _
    rw [e, Int.zero_add]
    push_cast
    rfl
  have hc : Lib.ctz 32 x = Lib.ctzFrom 32 x := by unfold Lib.ctz; rw [if_neg hx0]
  obtain ⟨m, hm, hlt⟩ := Lib.ctzFrom_spec 32 x (by omega) (by omega)
  rw [hc]
  generalize Lib.ctzFrom 32 x = t at *
  have hp32 : (4294967296 : Nat) = 2 ^ t * (2 * 2 ^ (31 - t)) := by
    rw [← Nat.pow_succ', ← Nat.pow_add, show t + (31 - t + 1) = 32 by omega]
  refine Or.inr ⟨?_, m + 2 ^ (31 - t) * q, ?_⟩
  · rw [e2]; exact Nat.mul_ne_zero (by omega) (by omega)
  · have e3 : x + 4294967296 * q = 2 ^ t * (2 * (m + 2 ^ (31 - t) * q) + 1) := by
      conv => lhs; rw [hm, hp32]
      rw [Nat.mul_assoc (2 ^ t), ← Nat.mul_add, Nat.mul_assoc 2]
      congr 1
      omega
    rw [e2, e3, Nat.mul_comm j 32, Nat.pow_add, Nat.pow_mul, Nat.mul_assoc]

set_option maxRecDepth 100000 in
set_option maxHeartbeats 1000000 in
theorem trailingZeros_any (a : Nat) (ao : Option Addr) (n ca : Nat) (w : World) (h : Sl w ao n ca (limbs a)) (hn : n ≤ 1000000000) (hT : Table w) :
    Calls Tryz.prog 250 #[.slice ao n ca] w fun e w' => ∃ t : Nat, e = .returned (.int .i64 t) ∧ IsTz a t ∧ w = w' := by
  have hl := h.len
  have HL := Lib.hid hl; clear hl
  have HT := Lib.hid hT; clear hT
  go_enter Tryz.func250, Tryz.ntmps250
  go_wp2
  go_loop [3, 4, 7] (fun _ _ k => ∃ j : Nat, j ≤ n ∧ k = .int .i64 j ∧ ∀ i, i < j → (limbs a).getD i 0 = 0) (fun _ _ k => n - (intOf k).toNat)
  case atStart => exact ⟨0, Nat.zero_le _, rfl, fun i hi => absurd hi (Nat.not_lt_zero _)⟩
  case round =>
    obtain ⟨j, hj, rfl, hz⟩ := hrel
    have HZ := Lib.hid hz; clear hz
    by_cases hlt : j < n
    · obtain ⟨b, off, rfl, hc⟩ := h.cells (by rw [HL.out]; omega)
      have c1 := hc j (by rw [HL.out]; omega)
      clear hc
      have hxr := (Wf.limbs a).getD j
      obtain ⟨x, hx⟩ : ∃ x, (limbs a).getD j 0 = x := ⟨_, rfl⟩
      rw [hx] at c1 hxr
      obtain ⟨x0, x1⟩ := hxr
      have HX := Lib.hid hx; clear hx
      by_cases hy : x = 0
      · subst hy
        go_wp2
        go_round
        case rel =>
          refine ⟨j + 1, by omega, by go_num, fun i hi => ?_⟩
          rcases Nat.lt_or_ge i j with h | h
          · exact HZ.out i h
          · obtain rfl : i = j := by omega
            exact HX.out
        case measure => simp [intOf] <;> omega
      · have hy0 : (x == 0) = false := beq_eq_false_iff_ne.2 hy
        have hct := ctz_lt (x := x.toNat) (by omega) (by omega)
        have hxn : ((x.toNat : Nat) : Int) = x := Int.toNat_of_nonneg x0
        have HI := Lib.hid (tz_limbs HZ.out (HX.out.trans hxn.symm) (by omega) (by omega) (by rw [HL.out]; exact hlt))
        have hz32 := tz32_any x.toNat (by omega) (by omega) w HT.out
        rw [hxn] at hz32
        have HTZ := Lib.hid hz32
        clear hz32 hxn hy
        generalize Lib.ctz 32 x.toNat = t at *
        go_wp2_with fail
        refine HTZ.out.mono ?_
        rintro e w2 ⟨rfl, rfl⟩
        go_wp2
        go_ret
        exact ⟨_, rfl, HI.out, rfl⟩
    · obtain rfl : j = n := by omega
      have h0 : a = 0 := by
        rcases Nat.eq_zero_or_pos a with h | h
        · exact h
        · exfalso
          have hne : limbs a ≠ [] := by rw [limbs_pos (by omega)]; simp
          have hp : 0 < (limbs a).length := List.length_pos_iff.2 hne
          have hlow : num ((limbs a).take j) = 0 := by
            have : ∀ k, k ≤ j → num ((limbs a).take k) = 0 := by
              intro k
              induction k with
              | zero => intro _; simp [num]
              | succ k ih => intro hk; rw [num_take_succ _ _ (by rw [HL.out]; omega), ih (by omega), HZ.out k (by omega)]; simp
            exact this j (Nat.le_refl _)
          rw [List.take_of_length_le (by rw [HL.out]; exact Nat.le_refl _), num_limbs] at hlow
          omega
      go_wp2
      go_ret
      exact ⟨0, rfl, Or.inl ⟨by first | rfl | exact h0, rfl⟩, rfl⟩
end Go.Proofs.YtecaaklbhhjcjaaGreatDoor

namespace Go.Proofs.YtecaaklbhhjcjaaGreatDoor
open Go.ChangeShapes Go.WideShapes Go.ChangeAt Go.RowKit Go.Joins Go.Deep

theorem Tryz.cellsDyad : Tryz.prog.cellsOf 47 = 4 := by kernel_rfl
theorem Tryz.cellsBool : Tryz.prog.cellsOf 4 = 1 := by kernel_rfl
theorem Tryz.cellsInt : Tryz.prog.cellsOf 3 = 1 := by kernel_rfl
theorem Tryz.cellsSl : Tryz.prog.cellsOf 22 = 1 := by kernel_rfl
theorem Tryz.readDyad : Tryz.prog.readableRec 47 = true := by kernel_rfl
theorem Tryz.sizeDyad : 47 < Tryz.prog.types.size := of_decide_eq_true (by kernel_rfl)

set_option maxRecDepth 100000 in
/-- a dyad that came in -/
theorem raw_dyad {H : Type} {enc : TypeId × Value → H} {W : World} {base : Nat} {v : Value} {d : DataW H} {p : List MemPlace} (hv : Value.okWide Tryz.prog W .any base 47 v)
    (h : DataW.Trod enc Tryz.prog W 0 (fun _ => true) true 47 v d p) : ∃ bb nb ao n ca f, v = .agg #[.bool bb, .bool nb, .slice ao n ca, .int .i64 f] ∧ -9223372036854775808 ≤ f ∧ f ≤ 9223372036854775807 ∧ (n ≤ 1099511627776 → ∃ zs, Sl W ao n ca zs) := by
  obtain ⟨cs, rfl, hsz⟩ := okWide_struct Tryz.underlying47 hv
  obtain ⟨c0, c1, c2, c3, rfl⟩ := array4 (hsz.trans Tryz.cellsDyad)
  obtain ⟨fuel, hf⟩ := h
  obtain ⟨y0, y1, y2, m, _, _, hy0, hy1, hy2⟩ := trod_struct3 Tryz.underlying47 hf
  simp only [Value.cells, Tryz.cellsBool, Tryz.cellsBig, Tryz.cellsInt, List.drop_zero, List.take_succ_cons, List.take_zero, List.drop_succ_cons] at hy0 hy1 hy2
  obtain ⟨bb, e0, _⟩ := DataW.trod_bool Tryz.underlying4 hy0
  simp at e0
  subst e0
  obtain ⟨f, e2, _, wf⟩ := DataW.trod_int Tryz.underlying3 hy2
  simp at e2
  subst e2
  obtain ⟨z0, z1, m', _, _, hz0, hz1⟩ := trod_struct2 Tryz.underlying24 hy1
  simp only [Tryz.cellsBool, Tryz.cellsSl, List.drop_zero, List.take_succ_cons, List.take_zero, List.drop_succ_cons] at hz0 hz1
  obtain ⟨nb, e1, _⟩ := DataW.trod_bool Tryz.underlying4 hz0
  simp at e1
  subst e1
  have hb := bounds_i64 wf
  rcases open_ints Tryz.underlying22 Tryz.underlying63 Tryz.cellsU32 hz1 with ⟨e1, _⟩ | ⟨a, len, cap, zs, e1, _, hl, _, hz, _, hcell, hwz⟩
  · simp at e1
    subst e1
    exact ⟨bb, nb, none, 0, 0, f, rfl, by omega, by omega, fun _ => ⟨[], Sl.nil W⟩⟩
  · simp at e1
    subst e1
    simp only [if_true] at hz
    refine ⟨bb, nb, some a, len, cap, f, rfl, by omega, by omega, fun hb => ⟨zs.take len, by rw [List.length_take, Nat.min_eq_left]; omega, hl, hb, fun z hz => wf_u32 (hwz z (List.mem_of_mem_take hz)), ?_⟩⟩
    intro h0
    rw [List.length_take] at h0
    obtain ⟨b, off, rfl, hc⟩ := ints_at hcell (by omega)
    refine ⟨b, off, rfl, fun j hj => ?_⟩
    rw [List.length_take] at hj
    rw [take_getD zs len j (by omega)]
    exact hc j (by omega)

theorem table_of {rest : List (String × DataW Unit)} {W : World} (h : laidMet Tryz.prog (("math/bits.deBruijn32tab", Rows.laid_math_bits_deBruijn32tab) :: rest) W) : Table W := by
  have h1 : Lib.TabIs Tryz.prog W "math/bits.deBruijn32tab" .u8 (Lib.deBruijn32tab.map fun (n : Nat) => (n : Int)) :=
    Lib.tabIs_of_head (g := 4) (t := 198) (e := 5) (n := 32) (rest := rest) (by kernel_rfl) (by kernel_rfl) (by kernel_rfl) (by kernel_rfl) (by kernel_rfl) (by kernel_rfl) h
  intro j hj
  have h2 := h1.cell (g := 4) (by kernel_rfl) j (by simpa using hj)
  rw [h2]
  simp [List.getD, hj]
end Go.Proofs.YtecaaklbhhjcjaaGreatDoor

namespace Go.Proofs.YtecaaklbhhjcjaaGreatDoor
open Go.ChangeShapes Go.WideShapes Go.ChangeAt Go.RowKit Go.Joins Go.Deep

theorem Tryz.cellsInterval : Tryz.prog.cellsOf 40 = 2 := by kernel_rfl
theorem Tryz.cellsFloat : Tryz.prog.cellsOf 38 = 1 := by kernel_rfl
theorem Tryz.readInterval : Tryz.prog.readableRec 40 = true := by kernel_rfl
theorem Tryz.sizeInterval : 40 < Tryz.prog.types.size := of_decide_eq_true (by kernel_rfl)

set_option maxRecDepth 100000 in
/-- an interval that came in -/
theorem raw_interval {H : Type} {enc : TypeId × Value → H} {W : World} {base : Nat} {v : Value} {d : DataW H} {p : List MemPlace} (hv : Value.okWide Tryz.prog W .any base 40 v)
    (h : DataW.Trod enc Tryz.prog W 0 (fun _ => true) true 40 v d p) : ∃ lo hi : Int, v = .agg #[.int .u64 lo, .int .u64 hi] ∧ (0 ≤ lo ∧ lo < 18446744073709551616) ∧ (0 ≤ hi ∧ hi < 18446744073709551616) := by
  obtain ⟨cs, rfl, hsz⟩ := okWide_struct Tryz.underlying40 hv
  obtain ⟨c0, c1, rfl⟩ := array2 (hsz.trans Tryz.cellsInterval)
  obtain ⟨fuel, hf⟩ := h
  obtain ⟨z0, z1, m', _, _, hz0, hz1⟩ := trod_struct2 Tryz.underlying40 hf
  simp only [Value.cells, Tryz.cellsFloat, List.drop_zero, List.take_succ_cons, List.take_zero, List.drop_succ_cons] at hz0 hz1
  obtain ⟨lo, e0, _, w0⟩ := DataW.trod_int Tryz.underlying38 hz0
  simp at e0
  subst e0
  obtain ⟨hi, e1, _, w1⟩ := DataW.trod_int Tryz.underlying38 hz1
  simp at e1
  subst e1
  have b0 := bounds_u64 w0
  have b1 := bounds_u64 w1
  exact ⟨lo, hi, rfl, by omega, by omega⟩
end Go.Proofs.YtecaaklbhhjcjaaGreatDoor

namespace Go.Proofs.YtecaaklbhhjcjaaGreatDoor

/-- is an absolute value rounded away from zero: r of h follows what is kept, and perhaps a tail -/
def fup (neg : Bool) (mode : Int) (kept r h : Nat) (t : Bool) : Bool :=
  if mode = 1 then neg && (decide (r ≠ 0) || t) else if mode = 2 then !neg && (decide (r ≠ 0) || t) else if mode = 3 then false
  else decide (h < 2 * r) || decide (h = 2 * r) && (t || decide (kept % 2 = 1))

/-- is a number that is too great rounded to the infinity -/
def fover (neg : Bool) (mode : Int) : Bool := if mode = 1 then neg else if mode = 2 then !neg else if mode = 3 then false else true

/-- the exponent of the last place that is kept -/
def fplace (N : Nat) (e : Int) : Int := max (e + (Nat.log2 N : Int) - 52) (-1074)

/-- N 2^e, perhaps with a tail, rounded: the bits without the sign -/
def fla (neg : Bool) (N : Nat) (e : Int) (t : Bool) (mode : Int) : Nat :=
  if e + (Nat.log2 N : Int) > 1023 then (if fover neg mode then 9218868437227405312 else 9218868437227405311)
  else if fplace N e ≤ e then (fplace N e + 1074).toNat * 4503599627370496 + N * 2 ^ (e - fplace N e).toNat
  else (fplace N e + 1074).toNat * 4503599627370496 + N / 2 ^ (fplace N e - e).toNat +
    (if fup neg mode (N / 2 ^ (fplace N e - e).toNat) (N % 2 ^ (fplace N e - e).toNat) (2 ^ (fplace N e - e).toNat) t then 1 else 0)

/-- .. and the bits with the sign -/
def flr (neg : Bool) (N : Nat) (e : Int) (t : Bool) (mode : Int) : Nat := (if neg then 9223372036854775808 else 0) + fla neg N e t mode

theorem log2_of {a k : Nat} (h0 : 2 ^ k ≤ a) (h1 : a < 2 ^ (k + 1)) : Nat.log2 a = k := by
  have ha : a ≠ 0 := by have := Nat.pow_pos (n := k) (show 0 < 2 by omega); omega
  exact (Nat.log2_eq_iff ha).2 ⟨h0, h1⟩
theorem log2_shift {a : Nat} (h : a ≠ 0) (k : Nat) : Nat.log2 (a * 2 ^ k) = Nat.log2 a + k := by
  have h1 := Nat.log2_self_le h
  have h2 := @Nat.lt_log2_self a
  have hp : 0 < 2 ^ k := Nat.pow_pos (by omega)
  apply log2_of
  · rw [Nat.pow_add]; exact Nat.mul_le_mul_right _ h1
  · rw [show Nat.log2 a + k + 1 = Nat.log2 a + 1 + k by omega, Nat.pow_add]; exact Nat.mul_lt_mul_of_pos_right h2 hp
theorem log2_down {a k : Nat} (h : 2 ^ k ≤ a) : Nat.log2 (a / 2 ^ k) = Nat.log2 a - k ∧ k ≤ Nat.log2 a := by
  have hp : 0 < 2 ^ k := Nat.pow_pos (by omega)
  have ha : a ≠ 0 := by omega
  have h1 := Nat.log2_self_le ha
  have h2 := @Nat.lt_log2_self a
  have hk : k ≤ Nat.log2 a := by
    rcases Nat.lt_or_ge (Nat.log2 a) k with h3 | h3
    · have := Nat.pow_le_pow_right (show 0 < 2 by omega) (show Nat.log2 a + 1 ≤ k by omega)
      omega
    · exact h3
  refine ⟨?_, hk⟩
  obtain ⟨j, hj⟩ : ∃ j, Nat.log2 a = j + k := ⟨Nat.log2 a - k, by omega⟩
  rw [hj] at h1 h2 ⊢
  rw [show j + k - k = j by omega]
  apply log2_of
  · rw [Nat.le_div_iff_mul_le hp, ← Nat.pow_add]; exact h1
  · rw [Nat.div_lt_iff_lt_mul hp, ← Nat.pow_add, show j + 1 + k = j + k + 1 by omega]; exact h2

theorem mod_mul_pow (N D k : Nat) : N * 2 ^ k % 2 ^ (D + k) = N % 2 ^ D * 2 ^ k := by
  rw [Nat.pow_add, Nat.mul_mod_mul_right]
theorem div_mul_pow (N D k : Nat) : N * 2 ^ k / 2 ^ (D + k) = N / 2 ^ D := by
  rw [Nat.pow_add, Nat.mul_div_mul_right _ _ (Nat.pow_pos (by omega))]

theorem fup_scale (neg : Bool) (mode : Int) (kept r h c : Nat) (t : Bool) (hc : 0 < c) : fup neg mode kept (r * c) (h * c) t = fup neg mode kept r h t := by
  have e1 : (r * c ≠ 0) = (r ≠ 0) := by
    apply propext
    constructor
    · intro h1 h2; exact h1 (by rw [h2, Nat.zero_mul])
    · intro h1 h2; rcases Nat.mul_eq_zero.1 h2 with h3 | h3 <;> omega
  have e2 : (h * c < 2 * (r * c)) = (h < 2 * r) := by
    apply propext
    rw [← Nat.mul_assoc]
    exact Nat.mul_lt_mul_right hc
  have e3 : (h * c = 2 * (r * c)) = (h = 2 * r) := by
    apply propext
    rw [← Nat.mul_assoc]
    exact Nat.mul_right_cancel_iff hc
  unfold fup
  simp only [e1, e2, e3]

theorem fplace_shift {N : Nat} (h : N ≠ 0) (e : Int) (k : Nat) : fplace (N * 2 ^ k) (e - k) = fplace N e := by
  unfold fplace
  rw [log2_shift h]
  congr 1
  push_cast
  omega

/-- the same number in smaller units -/
theorem fla_shift (neg : Bool) {N : Nat} (h : N ≠ 0) (e : Int) (t : Bool) (mode : Int) (k : Nat) (ht : t = true → 2 ^ 53 ≤ N) : fla neg (N * 2 ^ k) (e - k) t mode = fla neg N e t mode := by
  have e0 : e - (k : Int) + (Nat.log2 (N * 2 ^ k) : Int) = e + (Nat.log2 N : Int) := by rw [log2_shift h]; push_cast; omega
  unfold fla
  rw [e0, fplace_shift h]
  have hpl : e + (Nat.log2 N : Int) - 52 ≤ fplace N e := by unfold fplace; omega
  generalize fplace N e = P at *
  by_cases h1 : e + (Nat.log2 N : Int) > 1023
  · rw [if_pos h1, if_pos h1]
  · rw [if_neg h1, if_neg h1]
    by_cases h2 : P ≤ e
    · rw [if_pos h2]
      have htf : t = false := by
        cases t with
        | false => rfl
        | true =>
          exfalso
          have h3 := ht rfl
          have h4 := @Nat.lt_log2_self N
          have h5 : 2 ^ 53 < 2 ^ (Nat.log2 N + 1) := by omega
          have := (Nat.pow_lt_pow_iff_right (show 1 < 2 by omega)).1 h5
          omega
      subst htf
      by_cases h3 : P ≤ e - k
      · rw [if_pos h3]
        rw [show (e - P).toNat = k + (e - k - P).toNat by omega, Nat.pow_add, Nat.mul_assoc]
      · rw [if_neg h3]
        obtain ⟨j, hj⟩ : ∃ j : Nat, (j : Int) = P - (e - k) := ⟨(P - (e - k)).toNat, by omega⟩
        have e1 : (P - (e - k)).toNat = j := by omega
        obtain ⟨i, hi⟩ : ∃ i : Nat, k = i + j := ⟨k - j, by omega⟩
        have e2 : (e - P).toNat = i := by omega
        rw [e1, e2, hi, Nat.pow_add, ← Nat.mul_assoc, Nat.mul_div_cancel _ (Nat.pow_pos (by omega)), Nat.mul_mod_left]
        have e3 : fup neg mode (N * 2 ^ i) 0 (2 ^ j) false = false := by
          have := Nat.pow_pos (n := j) (show 0 < 2 by omega)
          unfold fup
          simp <;> omega
        rw [e3]
        simp
    · rw [if_neg h2, if_neg (by omega)]
      have e1 : (P - (e - k)).toNat = (P - e).toNat + k := by omega
      rw [e1, div_mul_pow, mod_mul_pow, Nat.pow_add, fup_scale _ _ _ _ _ _ _ (Nat.pow_pos (by omega))]

/-- digits that are cut off become the tail -/
theorem fla_tail (neg : Bool) {N : Nat} (e : Int) (t : Bool) (mode : Int) (j : Nat) (hN : 2 ^ 53 ≤ N / 2 ^ j) :
    fla neg (N / 2 ^ j) (e + j) (t || decide (N % 2 ^ j ≠ 0)) mode = fla neg N e t mode := by
  have hp : 0 < 2 ^ j := Nat.pow_pos (by omega)
  have h0 : 2 ^ j ≤ N := by
    rcases Nat.lt_or_ge N (2 ^ j) with h | h
    · rw [Nat.div_eq_of_lt h] at hN
      exact absurd hN (by decide)
    · exact h
  obtain ⟨h1, h2⟩ := log2_down h0
  have e0 : e + (j : Int) + (Nat.log2 (N / 2 ^ j) : Int) = e + (Nat.log2 N : Int) := by rw [h1]; omega
  have e1 : fplace (N / 2 ^ j) (e + j) = fplace N e := by unfold fplace; rw [e0]
  have h53 : 53 ≤ Nat.log2 (N / 2 ^ j) := by
    have h4 := @Nat.lt_log2_self (N / 2 ^ j)
    have h5 : 2 ^ 53 < 2 ^ (Nat.log2 (N / 2 ^ j) + 1) := by omega
    have := (Nat.pow_lt_pow_iff_right (show 1 < 2 by omega)).1 h5
    omega
  have hpl : e + (Nat.log2 N : Int) - 52 ≤ fplace N e := by unfold fplace; omega
  unfold fla
  rw [e0, e1]
  generalize fplace N e = P at *
  by_cases h3 : e + (Nat.log2 N : Int) > 1023
  · rw [if_pos h3, if_pos h3]
  · rw [if_neg h3, if_neg h3, if_neg (show ¬ P ≤ e + (j : Int) by omega), if_neg (show ¬ P ≤ e by omega)]
    obtain ⟨D, hD⟩ : ∃ D : Nat, (P - (e + j)).toNat = D + 1 := ⟨(P - (e + j)).toNat - 1, by omega⟩
    have hD2 : (P - e).toNat = j + (D + 1) := by omega
    rw [hD, hD2, Nat.div_div_eq_div_mul, ← Nat.pow_add]
    congr 1
    have hm : N % 2 ^ (j + (D + 1)) = 2 ^ j * (N / 2 ^ j % 2 ^ (D + 1)) + N % 2 ^ j := by
      rw [Nat.pow_add, Nat.mod_mul]; omega
    have hr : N % 2 ^ j < 2 ^ j := Nat.mod_lt _ hp
    generalize N / 2 ^ (j + (D + 1)) = K
    rw [hm]
    generalize N / 2 ^ j % 2 ^ (D + 1) = r
    generalize N % 2 ^ j = s at *
    have e5 : fup neg mode K r (2 ^ (D + 1)) (t || decide (s ≠ 0)) = fup neg mode K (2 ^ j * r + s) (2 ^ (j + (D + 1))) t := by
      have a1 : (2 ^ j * r + s ≠ 0) ↔ (r ≠ 0 ∨ s ≠ 0) := by
        constructor
        · intro h
          rcases Nat.eq_zero_or_pos r with h4 | h4
          · subst h4; right; simpa using h
          · left; omega
        · rintro (h | h)
          · have := Nat.mul_pos hp (Nat.pos_of_ne_zero h); omega
          · omega
      have hH : 2 ^ (j + (D + 1)) = 2 ^ j * (2 * 2 ^ D) := by rw [Nat.pow_add, Nat.pow_succ, Nat.mul_comm (2 ^ D) 2]
      have hh : 2 ^ (D + 1) = 2 * 2 ^ D := by rw [Nat.pow_succ, Nat.mul_comm]
      rw [hH, hh]
      generalize 2 ^ D = H
      have m1 : 2 ^ j * (2 * H) = 2 * (2 ^ j * H) := by rw [← Nat.mul_assoc, Nat.mul_comm (2 ^ j) 2, Nat.mul_assoc]
      rw [m1]
      -- three cases: below the middle, in it, above it
      rcases Nat.lt_trichotomy r H with h4 | h4 | h4
      · have h5 : 2 ^ j * r + 2 ^ j ≤ 2 ^ j * H := by
          have := Nat.mul_le_mul_left (2 ^ j) (show r + 1 ≤ H from h4)
          rwa [Nat.mul_add, Nat.mul_one] at this
        have b1 : ¬ 2 * H < 2 * r := by omega
        have b2 : ¬ 2 * H = 2 * r := by omega
        have b3 : ¬ 2 * (2 ^ j * H) < 2 * (2 ^ j * r + s) := by omega
        have b4 : ¬ 2 * (2 ^ j * H) = 2 * (2 ^ j * r + s) := by omega
        unfold fup
        simp only [b1, b2, b3, b4, decide_false, Bool.false_and, Bool.or_false]
        have : (decide (r ≠ 0) || (t || decide (s ≠ 0))) = (decide (2 ^ j * r + s ≠ 0) || t) := by
          rw [decide_eq_decide.2 a1, Bool.decide_or]
          cases decide (r ≠ 0) <;> cases t <;> cases decide (s ≠ 0) <;> rfl
        rw [this]
      · subst h4
        have c1 : ¬ 2 * r < 2 * r := by omega
        have c2 : (2 * (2 ^ j * r) < 2 * (2 ^ j * r + s)) = (s ≠ 0) := by apply propext; omega
        have c3 : (2 * (2 ^ j * r) = 2 * (2 ^ j * r + s)) = (s = 0) := by apply propext; omega
        unfold fup
        simp only [c1, c2, c3, decide_false, decide_true, Bool.true_and, Bool.false_or]
        have : (decide (r ≠ 0) || (t || decide (s ≠ 0))) = (decide (2 ^ j * r + s ≠ 0) || t) := by
          rw [decide_eq_decide.2 a1, Bool.decide_or]
          cases decide (r ≠ 0) <;> cases t <;> cases decide (s ≠ 0) <;> rfl
        rw [this]
        by_cases hs : s = 0
        · subst hs; simp
        · simp [hs]
      · have h5 : 2 ^ j * H + 2 ^ j ≤ 2 ^ j * r := by
          have := Nat.mul_le_mul_left (2 ^ j) (show H + 1 ≤ r from h4)
          rwa [Nat.mul_add, Nat.mul_one] at this
        have b1 : 2 * H < 2 * r := by omega
        have b3 : 2 * (2 ^ j * H) < 2 * (2 ^ j * r + s) := by omega
        unfold fup
        simp only [b1, b3, decide_true, Bool.true_or]
        have : (decide (r ≠ 0) || (t || decide (s ≠ 0))) = (decide (2 ^ j * r + s ≠ 0) || t) := by
          rw [decide_eq_decide.2 a1, Bool.decide_or]
          cases decide (r ≠ 0) <;> cases t <;> cases decide (s ≠ 0) <;> rfl
        rw [this]
    rw [e5]
end Go.Proofs.YtecaaklbhhjcjaaGreatDoor
