import Derived.Test.YtlpclahlolhjfaaGreatDoorCards
import Derived.Test.YtlpclahlolhjfaaGreatDoorTie
import Derived.Test.YtlpclahlolhjfaaGreatDoorMoRlU1
import Derived.WalkKit
import Derived.ProofKit
import Derived.OpenShut
import Derived.Deep.DeepHandedRow
import Derived.Lib.LaidTab
import Derived.Lib.SmallJoins
import Derived.LaidMore
import Derived.Test.YtlpclahlolhjfaaGreatDoorRows
import Derived.WalkSpells
import Derived.WalkLawsBesides
import Derived.Shelf.Spec.TrailingZeros
import Derived.Shelf.Strconv.Itoa1
import Derived.Shelf.Strconv.Itoa2
import Derived.Shelf.Strconv.Itoa3
import Derived.Shelf.Strings.Repeat
import Derived.Test.YtlpclahlolhjfaaGreatDoorProg
import Derived.OwnWalk
namespace Go.Proofs.YtlpclahlolhjfaaGreatDoor
open Go.ChangeShapes Go.WideShapes Go.ChangeAt Go.RowKit Go.Joins

theorem Tryz.own : ownKnob Tryz.prog.godebug = none := by kernel_rfl
theorem Tryz.laidOut : laidOutB Tryz.prog = true := by kernel_rfl
theorem Tryz.cellsBig : Tryz.prog.cellsOf 27 = 2 := by kernel_rfl
theorem Tryz.cellsU32 : Tryz.prog.cellsOf 66 = 1 := by kernel_rfl
theorem Tryz.readBig : Tryz.prog.readableRec 27 = true := by kernel_rfl
theorem Tryz.sizeBig : 27 < Tryz.prog.types.size := of_decide_eq_true (by kernel_rfl)

theorem wf_u32 {z : Int} (h : (Lit.int .u32 z).wf = true) : 0 ≤ z ∧ z < 4294967296 := by
  have := bounds_u32 h
  omega

set_option maxRecDepth 100000 in
/-- an integer that came in -/
theorem raw_big {H : Type} {enc : TypeId × Value → H} {W : World} {base : Nat} {v : Value} {d : DataW H} {p : List MemPlace} (hv : Value.okWide Tryz.prog W .any base 27 v)
    (h : DataW.Trod enc Tryz.prog W 0 (fun _ => true) true 27 v d p) : ∃ nb ao n ca, v = .agg #[.bool nb, .slice ao n ca] ∧ (n ≤ 1099511627776 → ∃ zs, Sl W ao n ca zs) := by
  obtain ⟨c0, c1, y0, y1, m, rfl, _, _, hy0, hy1⟩ := open_agg2 Tryz.underlying27 (by kernel_rfl) Tryz.cellsBig hv h
  obtain ⟨nb, e0, _⟩ := DataW.trod_bool Tryz.underlying4 hy0
  simp at e0
  subst e0
  rcases open_ints Tryz.underlying25 Tryz.underlying66 Tryz.cellsU32 hy1 with ⟨e1, _⟩ | ⟨a, len, cap, zs, e1, _, hl, _, hz, _, hcell, hwz⟩
  · simp at e1
    subst e1
    exact ⟨nb, none, 0, 0, rfl, fun _ => ⟨[], Sl.nil W⟩⟩
  · simp at e1
    subst e1
    simp only [if_true] at hz
    refine ⟨nb, some a, len, cap, rfl, fun hb => ⟨zs.take len, by rw [List.length_take, Nat.min_eq_left]; omega, hl, hb, fun z hz => wf_u32 (hwz z (List.mem_of_mem_take hz)), ?_⟩⟩
    intro h0
    rw [List.length_take] at h0
    obtain ⟨b, off, rfl, hc⟩ := ints_at hcell (by omega)
    refine ⟨b, off, rfl, fun j hj => ?_⟩
    rw [List.length_take] at hj
    rw [take_getD zs len j (by omega)]
    exact hc j (by omega)

theorem Tryz.readInt : Tryz.prog.readableRec 3 = true := by kernel_rfl
theorem Tryz.sizeInt : 3 < Tryz.prog.types.size := of_decide_eq_true (by kernel_rfl)
end Go.Proofs.YtlpclahlolhjfaaGreatDoor

namespace Go.Proofs.YtlpclahlolhjfaaGreatDoor
open Go.RowKit

set_option maxHeartbeats 400000 in
theorem trim_any (ao : Option Addr) (n cap : Nat) (zs : List Int) (w : World) (hl : zs.length = n) (hn : n ≤ 1099511627776) (hcap : n ≤ cap) (ha : At w ao zs) :
    Calls Tryz.prog 57 #[.slice ao n cap] w fun e w' => e = .returned (.slice ao (tlen zs n) cap) ∧ w = w' := by
  have HL := Lib.hid hl; clear hl
  go_enter Tryz.func57, Tryz.ntmps57
  go_wp2
  go_loop [3] (fun i => ∃ k : Nat, k ≤ n ∧ i = .int .i64 k ∧ tlen zs n = tlen zs k) (fun i => (intOf i).toNat)
  case atStart => exact ⟨n, Nat.le_refl _, rfl, rfl⟩
  case round =>
    obtain ⟨k, hk, rfl, ht⟩ := hrel
    have HT := Lib.hid ht; clear ht
    by_cases h0 : 0 < k
    · obtain ⟨m, rfl⟩ : ∃ m, k = m + 1 := ⟨k - 1, by omega⟩
      obtain ⟨b, off, rfl, hc⟩ := ha (by rw [HL.out]; omega)
      have hcell := hc m (by rw [HL.out]; omega)
      clear hc ha
      go_wp2
      · have h1 : (zs[m]?.getD 0 == 0) = true := by assumption
        go_round
        case rel => exact ⟨m, by omega, by go_num, by rw [HT.out, tlen, if_pos (by simpa [List.getD] using h1)]⟩
        case measure => simp [intOf]
      · have h1 : (zs[m]?.getD 0 == 0) = false := by assumption
        go_ret
        refine ⟨?_, rfl⟩
        rw [HT.out, tlen, if_neg (by simpa [List.getD] using h1)]; rfl
    · obtain rfl : k = 0 := by omega
      clear ha
      go_wp2
      go_ret
      refine ⟨?_, rfl⟩
      rw [HT.out]; rfl

/-- trim gives the limbs of the number, in the same world -/
theorem trim_sl (ao : Option Addr) (n cap : Nat) (zs : List Int) (w : World) (h : Sl w ao n cap zs) :
    Calls Tryz.prog 57 #[.slice ao n cap] w fun e w' => ∃ k, e = .returned (.slice ao k cap) ∧ Sl w ao k cap (limbs (num zs).toNat) ∧ w = w' :=
  (trim_any ao n cap zs w h.len h.big h.cap h.cells).mono fun _ _ ⟨he, hw⟩ => ⟨_, he, h.trim, hw⟩

/-- the same length in every world -/
theorem trim_at (ao : Option Addr) (n cap : Nat) (zs : List Int) (w : World) (h : Sl w ao n cap zs) :
    ∃ k, k ≤ n ∧ Sl w ao k cap (limbs (num zs).toNat) ∧ ∀ W, Sl W ao n cap zs → Calls Tryz.prog 57 #[.slice ao n cap] W fun e w' => e = .returned (.slice ao k cap) ∧ W = w' :=
  ⟨_, tlen_le _ _, h.trim, fun W hW => trim_any ao n cap zs W hW.len hW.big hW.cap hW.cells⟩
end Go.Proofs.YtlpclahlolhjfaaGreatDoor

namespace Go.Proofs.YtlpclahlolhjfaaGreatDoor
open Go.RowKit

/-- the table that bits.TrailingZeros32 reads -/
def Table (w : World) : Prop := TabAt 0 Lib.deBruijn32tab w

theorem Table.below {w w' : World} (h : Table w) (hb : Below w.heap.size w w') : Table w' := by
  intro j hj
  have h1 := h j hj
  rw [hb.cell (p := ⟨_, j, none⟩) (lt_of_cell h1)]
  exact h1

set_option maxRecDepth 100000 in
set_option maxHeartbeats 1000000 in
theorem tz32_at (x k idx : Nat) (w : World) (hx0 : ((x : Int) == 0) = false)
    (key : bits BinOp.and IntKind.u32 (x : Int) (-(x : Int) % 4294967296) * 125613361 % 4294967296 / 134217728 = (idx : Int))
    (hi : idx < 32) (hk : k < 32) (hcell : w.cell? ⟨0, idx, none⟩ = some (.int .u8 k)) :
    Calls Tryz.prog 113 #[.int .u32 x] w fun e w' => e = .returned (.int .i64 k) ∧ w = w' := by
  go_enter Tryz.func113, Tryz.ntmps113
  go_wp2_with (simp only [key])
  go_ret
  exact ⟨rfl, rfl⟩

theorem ctz_lt {x : Nat} (h : x ≠ 0) (h1 : x < 4294967296) : Lib.ctz 32 x < 32 := (Lib.lowest_bit 32 x h h1).2

theorem tz32_any (x : Nat) (h0 : x ≠ 0) (h1 : x < 4294967296) (w : World) (hT : Table w) :
    Calls Tryz.prog 113 #[.int .u32 x] w fun e w' => e = .returned (.int .i64 (Lib.ctz 32 x)) ∧ w = w' := by
  obtain ⟨hlow, hk⟩ := Lib.lowest_bit 32 x h0 h1
  obtain ⟨hi, htab⟩ := Lib.deBruijn32_at _ hk
  have hcell := hT _ hi
  rw [htab] at hcell
  exact tz32_at x _ _ w (by simp; omega) (tz32_key x _ h1 h0 hlow) hi hk hcell

/-- the number of trailing zeros -/
def IsTz (a t : Nat) : Prop := (a = 0 ∧ t = 0) ∨ (a ≠ 0 ∧ ∃ m, a = 2 ^ t * (2 * m + 1))

theorem odd_unique {s t m n : Nat} (h : 2 ^ s * (2 * m + 1) = 2 ^ t * (2 * n + 1)) : s = t := by
  induction s generalizing t with
  | zero =>
    rcases t with _ | t
    · rfl
    · exfalso
      rw [Nat.pow_zero, Nat.one_mul, Nat.pow_succ, Nat.mul_assoc, Nat.mul_left_comm] at h
      omega
  | succ s ih =>
    rcases t with _ | t
    · exfalso
      rw [Nat.pow_zero, Nat.one_mul, Nat.pow_succ, Nat.mul_assoc, Nat.mul_left_comm] at h
      omega
    · rw [Nat.pow_succ, Nat.mul_assoc, Nat.mul_left_comm, Nat.pow_succ, Nat.mul_assoc (2 ^ t), Nat.mul_left_comm (2 ^ t)] at h
      have := ih (t := t) (by omega)
      omega

theorem IsTz.unique {a s t : Nat} (h : IsTz a s) (k : IsTz a t) : s = t := by
  rcases h with ⟨h0, rfl⟩ | ⟨h0, m, hm⟩
  · rcases k with ⟨_, rfl⟩ | ⟨k0, _⟩
    · rfl
    · exact absurd h0 k0
  · rcases k with ⟨k0, _⟩ | ⟨_, n, hn⟩
    · exact absurd k0 h0
    · exact odd_unique (hm.symm.trans hn)

theorem IsTz.mul {a t : Nat} (h : IsTz a t) (h0 : a ≠ 0) (k : Nat) : IsTz (a * 2 ^ k) (t + k) := by
  rcases h with ⟨e, _⟩ | ⟨_, m, hm⟩
  · exact absurd e h0
  · refine Or.inr ⟨Nat.mul_ne_zero h0 (by simp), m, ?_⟩
    rw [hm, Nat.pow_add, Nat.mul_right_comm]

theorem IsTz.dvd {a t : Nat} (h : IsTz a t) (h0 : a ≠ 0) (k : Nat) : t < k ↔ a % 2 ^ k ≠ 0 := by
  rcases h with ⟨e, _⟩ | ⟨_, m, hm⟩
  · exact absurd e h0
  · constructor
    · intro hk hz
      obtain ⟨q, hq⟩ := Nat.dvd_of_mod_eq_zero hz
      rw [hm, show k = t + (k - t - 1 + 1) by omega, Nat.pow_add, Nat.mul_assoc] at hq
      have := Nat.eq_of_mul_eq_mul_left (Nat.pos_of_ne_zero (by simp)) hq
      rw [Nat.pow_succ, Nat.mul_comm (2 ^ (k - t - 1)) 2, Nat.mul_assoc] at this
      omega
    · intro hz
      rcases Nat.lt_or_ge t k with h | h
      · exact h
      · exfalso
        apply hz
        apply Nat.mod_eq_zero_of_dvd
        rw [hm, show t = k + (t - k) by omega, Nat.pow_add, Nat.mul_assoc]
        exact Nat.dvd_mul_right _ _

/-- the first limb that is not zero tells -/
theorem tz_limbs {a j x : Nat} (hz : ∀ i, i < j → (limbs a).getD i 0 = 0) (hx : (limbs a).getD j 0 = (x : Int)) (hx0 : x ≠ 0) (hx1 : x < 4294967296) (hj : j < (limbs a).length) : IsTz a (j * 32 + Lib.ctz 32 x) := by
  have hpj : (0 : Nat) < 4294967296 ^ j := Nat.pos_of_ne_zero (by simp)
  have hlow : num ((limbs a).take j) = 0 := by
    have : ∀ k, k ≤ j → num ((limbs a).take k) = 0 := by
      intro k
      induction k with
      | zero => intro _; simp [num]
      | succ k ih => intro hk; rw [num_take_succ _ _ (by omega), ih (by omega), hz k (by omega)]; simp
    exact this j (Nat.le_refl _)
  have e := num_append ((limbs a).take j) ((limbs a).drop j)
  rw [List.take_append_drop, List.length_take, Nat.min_eq_left (by omega), hlow, num_limbs, List.drop_eq_getElem_cons hj, num, ← getD_at hj, hx] at e
  have hwd := num_nonneg ((Wf.limbs a).drop (j + 1))
  obtain ⟨q, hq⟩ := Int.eq_ofNat_of_zero_le hwd
  rw [hq] at e
  have e2 : a = 4294967296 ^ j * (x + 4294967296 * q) := by
    apply Int.ofNat.inj
    show (a : Int) = _
    rw [e, Int.zero_add]
    push_cast
    rfl
  have hc : Lib.ctz 32 x = Lib.ctzFrom 32 x := by unfold Lib.ctz; rw [if_neg hx0]
  obtain ⟨m, hm, hlt⟩ := Lib.ctzFrom_spec 32 x (by omega) (by omega)
  rw [hc]
  generalize Lib.ctzFrom 32 x = t at *
  have hp32 : (4294967296 : Nat) = 2 ^ t * (2 * 2 ^ (31 - t)) := by
    rw [← Nat.pow_succ', ← Nat.pow_add, show t + (31 - t + 1) = 32 by omega]
  refine Or.inr ⟨?_, m + 2 ^ (31 - t) * q, ?_⟩
  · rw [e2]; exact Nat.mul_ne_zero (by omega) (by omega)
  · have e3 : x + 4294967296 * q = 2 ^ t * (2 * (m + 2 ^ (31 - t) * q) + 1) := by
      conv => lhs; rw [hm, hp32]
      rw [Nat.mul_assoc (2 ^ t), ← Nat.mul_add, Nat.mul_assoc 2]
      congr 1
      omega
    rw [e2, e3, Nat.mul_comm j 32, Nat.pow_add, Nat.pow_mul, Nat.mul_assoc]

set_option maxRecDepth 100000 in
set_option maxHeartbeats 1000000 in
theorem trailingZeros_any (a : Nat) (ao : Option Addr) (n ca : Nat) (w : World) (h : Sl w ao n ca (limbs a)) (hn : n ≤ 1000000000) (hT : Table w) :
    Calls Tryz.prog 86 #[.slice ao n ca] w fun e w' => ∃ t : Nat, e = .returned (.int .i64 t) ∧ IsTz a t ∧ w = w' := by
  have hl := h.len
  have HL := Lib.hid hl; clear hl
  have HT := Lib.hid hT; clear hT
  go_enter Tryz.func86, Tryz.ntmps86
  go_wp2
  go_loop [3, 4, 7] (fun _ _ k => ∃ j : Nat, j ≤ n ∧ k = .int .i64 j ∧ ∀ i, i < j → (limbs a).getD i 0 = 0) (fun _ _ k => n - (intOf k).toNat)
  case atStart => exact ⟨0, Nat.zero_le _, rfl, fun i hi => absurd hi (Nat.not_lt_zero _)⟩
  case round =>
    obtain ⟨j, hj, rfl, hz⟩ := hrel
    have HZ := Lib.hid hz; clear hz
    by_cases hlt : j < n
    · obtain ⟨b, off, rfl, hc⟩ := h.cells (by rw [HL.out]; omega)
      have c1 := hc j (by rw [HL.out]; omega)
      clear hc
      have hxr := (Wf.limbs a).getD j
      obtain ⟨x, hx⟩ : ∃ x, (limbs a).getD j 0 = x := ⟨_, rfl⟩
      rw [hx] at c1 hxr
      obtain ⟨x0, x1⟩ := hxr
      have HX := Lib.hid hx; clear hx
      by_cases hy : x = 0
      · subst hy
        go_wp2
        go_round
        case rel =>
          refine ⟨j + 1, by omega, by go_num, fun i hi => ?_⟩
          rcases Nat.lt_or_ge i j with h | h
          · exact HZ.out i h
          · obtain rfl : i = j := by omega
            exact HX.out
        case measure => simp [intOf] <;> omega
      · have hy0 : (x == 0) = false := beq_eq_false_iff_ne.2 hy
        have hct := ctz_lt (x := x.toNat) (by omega) (by omega)
        have hxn : ((x.toNat : Nat) : Int) = x := Int.toNat_of_nonneg x0
        have HI := Lib.hid (tz_limbs HZ.out (HX.out.trans hxn.symm) (by omega) (by omega) (by rw [HL.out]; exact hlt))
        have hz32 := tz32_any x.toNat (by omega) (by omega) w HT.out
        rw [hxn] at hz32
        have HTZ := Lib.hid hz32
        clear hz32 hxn hy
        generalize Lib.ctz 32 x.toNat = t at *
        go_wp2_with fail
        refine HTZ.out.mono ?_
        rintro e w2 ⟨rfl, rfl⟩
        go_wp2
        go_ret
        exact ⟨_, rfl, HI.out, rfl⟩
    · obtain rfl : j = n := by omega
      have h0 : a = 0 := by
        rcases Nat.eq_zero_or_pos a with h | h
        · exact h
        · exfalso
          have hne : limbs a ≠ [] := by rw [limbs_pos (by omega)]; simp
          have hp : 0 < (limbs a).length := List.length_pos_iff.2 hne
          have hlow : num ((limbs a).take j) = 0 := by
            have : ∀ k, k ≤ j → num ((limbs a).take k) = 0 := by
              intro k
              induction k with
              | zero => intro _; simp [num]
              | succ k ih => intro hk; rw [num_take_succ _ _ (by rw [HL.out]; omega), ih (by omega), HZ.out k (by omega)]; simp
            exact this j (Nat.le_refl _)
          rw [List.take_of_length_le (by rw [HL.out]; exact Nat.le_refl _), num_limbs] at hlow
          omega
      go_wp2
      go_ret
      exact ⟨0, rfl, Or.inl ⟨by first | rfl | exact h0, rfl⟩, rfl⟩
end Go.Proofs.YtlpclahlolhjfaaGreatDoor

namespace Go.Proofs.YtlpclahlolhjfaaGreatDoor
open Go.ChangeShapes Go.WideShapes Go.ChangeAt Go.RowKit Go.Joins Go.Deep

theorem table_of {rest : List (String × DataW Unit)} {W : World} (h : laidMet Tryz.prog (("math/bits.deBruijn32tab", Rows.laid_math_bits_deBruijn32tab) :: rest) W) : Table W := by
  have h1 : Lib.TabIs Tryz.prog W "math/bits.deBruijn32tab" .u8 (Lib.deBruijn32tab.map fun (n : Nat) => (n : Int)) :=
    Lib.tabIs_of_head (g := 0) (t := 137) (e := 5) (n := 32) (rest := rest) (by kernel_rfl) (by kernel_rfl) (by kernel_rfl) (by kernel_rfl) (by kernel_rfl) (by kernel_rfl) h
  intro j hj
  have h2 := h1.cell (g := 0) (by kernel_rfl) j (by simpa using hj)
  rw [h2]
  simp [List.getD, hj]
end Go.Proofs.YtlpclahlolhjfaaGreatDoor

namespace Go.Proofs
open Go.Shelf
def Tryz.lays283_ren : Go.Shelf.Ren := ⟨fun | 283 => 124 | n => n, fun | 3 => 3 | 9 => 9 | 4 => 4 | n => n, fun | n => n⟩
theorem Tryz.lays283 : Go.Proofs.Lays.n283 Tryz.prog Tryz.lays283_ren := {
  mixed := by kernel_rfl
  f283 := Tryz.func124.trans (congrArg some (by kernel_rfl))
  t3 := Tryz.underlying3
  a3 := Tryz.isAgg3
  z3 := Tryz.sizeOf3
  v3 := Tryz.zeroValue3
  t4 := Tryz.underlying4
  a4 := Tryz.isAgg4
  z4 := Tryz.sizeOf4
  v4 := Tryz.zeroValue4
  t9 := Tryz.underlying9
  a9 := Tryz.isAgg9
  z9 := Tryz.sizeOf9
  v9 := Tryz.zeroValue9 }
open Go.Lib in
theorem Tryz.internal_strconv_small (i : Nat) (h : i < 100) (w : World) :
    Calls Tryz.prog 124 #[.int .i64 i] w fun e w' => e = .returned (.string ⟨(Lib.decDigits i).toArray⟩) ∧ w' = w := Any.internal_strconv_small Tryz.lays283 i h w
def Tryz.laysM284_ren : Go.Shelf.Ren := ⟨fun | 284 => 125 | 129 => 135 | 317 => 139 | 318 => 140 | n => n, fun | 53 => 65 | 3 => 3 | 212 => 143 | 0 => 0 | 4 => 4 | 46 => 64 | 5 => 5 | 9 => 9 | n => n, fun | 17 => 1 | n => n⟩
theorem Tryz.laysM284 : Go.Proofs.LaysM.n284 Tryz.prog Tryz.laysM284_ren := {
  mixed := by kernel_rfl
  f129 := Tryz.func135.trans (congrArg some (by kernel_rfl))
  f284 := Tryz.func125.trans (congrArg some (by kernel_rfl))
  f317 := Tryz.func139.trans (congrArg some (by kernel_rfl))
  f318 := Tryz.func140.trans (congrArg some (by kernel_rfl))
  t0 := Tryz.underlying0
  a0 := Tryz.isAgg0
  z0 := Tryz.sizeOf0
  v0 := Tryz.zeroValue0
  t3 := Tryz.underlying3
  a3 := Tryz.isAgg3
  z3 := Tryz.sizeOf3
  v3 := Tryz.zeroValue3
  t4 := Tryz.underlying4
  a4 := Tryz.isAgg4
  z4 := Tryz.sizeOf4
  v4 := Tryz.zeroValue4
  t5 := Tryz.underlying5
  a5 := Tryz.isAgg5
  z5 := Tryz.sizeOf5
  v5 := Tryz.zeroValue5
  t9 := Tryz.underlying9
  a9 := Tryz.isAgg9
  z9 := Tryz.sizeOf9
  v9 := Tryz.zeroValue9
  t46 := Tryz.underlying64
  a46 := Tryz.isAgg64
  z46 := Tryz.sizeOf64
  v46 := Tryz.zeroValue64
  t53 := Tryz.underlying65
  a53 := Tryz.isAgg65
  z53 := Tryz.sizeOf65
  v53 := Tryz.zeroValue65
  t212 := Tryz.underlying143
  a212 := Tryz.isAgg143
  z212 := Tryz.sizeOf143
  v212 := Tryz.zeroValue143
  g17 := by kernel_rfl
  i0 := by kernel_rfl
  i3 := by kernel_rfl
  i4 := by kernel_rfl
  i5 := by kernel_rfl
  i9 := by kernel_rfl
  i46 := by kernel_rfl
  i53 := by kernel_rfl
  i212 := by kernel_rfl
  m17 := by kernel_rfl }
open Go.Lib in
theorem Tryz.internal_strconv_numDigits (u : Nat) (h1 : 1 ≤ u) (h2 : u < 18446744073709551616) (w : World) (htab : Lib.TabIs Tryz.prog w "internal/strconv.uint64pow10" .u64 Lib.pow10Tab) :
    Calls Tryz.prog 125 #[.int .u64 u] w fun e w' => e = .returned (.int .i64 (Lib.nDigits u)) ∧ w' = w := Any.internal_strconv_numDigits Tryz.laysM284 u h1 h2 w htab
def Tryz.lays285_ren : Go.Shelf.Ren := ⟨fun | 285 => 126 | n => n, fun | 37 => 79 | 53 => 65 | 3 => 3 | 4 => 4 | 51 => 66 | 9 => 9 | 5 => 5 | 0 => 0 | n => n, fun | n => n⟩
theorem Tryz.lays285 : Go.Proofs.Lays.n285 Tryz.prog Tryz.lays285_ren := {
  mixed := by kernel_rfl
  f285 := Tryz.func126.trans (congrArg some (by kernel_rfl))
  t0 := Tryz.underlying0
  a0 := Tryz.isAgg0
  z0 := Tryz.sizeOf0
  v0 := Tryz.zeroValue0
  t3 := Tryz.underlying3
  a3 := Tryz.isAgg3
  z3 := Tryz.sizeOf3
  v3 := Tryz.zeroValue3
  t4 := Tryz.underlying4
  a4 := Tryz.isAgg4
  z4 := Tryz.sizeOf4
  v4 := Tryz.zeroValue4
  t5 := Tryz.underlying5
  a5 := Tryz.isAgg5
  z5 := Tryz.sizeOf5
  v5 := Tryz.zeroValue5
  t9 := Tryz.underlying9
  a9 := Tryz.isAgg9
  z9 := Tryz.sizeOf9
  v9 := Tryz.zeroValue9
  t37 := Tryz.underlying79
  a37 := Tryz.isAgg79
  z37 := Tryz.sizeOf79
  v37 := Tryz.zeroValue79
  t51 := Tryz.underlying66
  a51 := Tryz.isAgg66
  z51 := Tryz.sizeOf66
  v51 := Tryz.zeroValue66
  t53 := Tryz.underlying65
  a53 := Tryz.isAgg65
  z53 := Tryz.sizeOf65
  v53 := Tryz.zeroValue65 }
open Go.RowKit Go.Sort Go.Lib in
theorem Tryz.internal_strconv_formatBase10 (blk off cap : Nat) (u : Nat) (d : Array UInt8) (w : World) (hH : Holds (fun (b : UInt8) => Value.int .u8 (b.toNat : Int)) w blk off d) (hu : u < 10 ^ d.size) (hu64 : u < 18446744073709551616) (hsz : d.size < 4611686018427387904) :
    Calls Tryz.prog 126 #[.slice (some ⟨blk, off, none⟩) d.size cap, .int .u64 u] w fun e w' =>
      e = .returned (.tuple #[]) ∧ ∃ (n v' : Nat) (dk : Array UInt8), w' = (putRow (fun (b : UInt8) => Value.int .u8 (b.toNat : Int)) w blk off dk).drewN n ∧ FmtInv d.size u 0 v' dk := Any.internal_strconv_formatBase10 Tryz.lays285 blk off cap u d w hH hu hu64 hsz
def Tryz.lays105_ren : Go.Shelf.Ren := ⟨fun | 105 => 68 | 212 => 103 | 99 => 104 | 165 => 105 | 166 => 65 | 170 => 106 | 169 => 69 | 263 => 128 | 264 => 129 | 206 => 130 | 240 => 99 | 241 => 131 | 276 => 123 | 277 => 142 | n => n, fun | 9 => 9 | 3 => 3 | 4 => 4 | 20 => 20 | 0 => 0 | 46 => 64 | 109 => 110 | 5 => 5 | 72 => 81 | 76 => 85 | 51 => 66 | 146 => 132 | 53 => 65 | 148 => 134 | 70 => 78 | 37 => 79 | 75 => 83 | 127 => 113 | 164 => 124 | 80 => 92 | n => n, fun | n => n⟩
theorem Tryz.lays105 : Go.Proofs.Lays.n105 Tryz.prog Tryz.lays105_ren := {
  mixed := by kernel_rfl
  f99 := Tryz.func104.trans (congrArg some (by kernel_rfl))
  f105 := Tryz.func68.trans (congrArg some (by kernel_rfl))
  f165 := Tryz.func105.trans (congrArg some (by kernel_rfl))
  f166 := Tryz.func65.trans (congrArg some (by kernel_rfl))
  f169 := Tryz.func69.trans (congrArg some (by kernel_rfl))
  f170 := Tryz.func106.trans (congrArg some (by kernel_rfl))
  f206 := Tryz.func130.trans (congrArg some (by kernel_rfl))
  f212 := Tryz.func103.trans (congrArg some (by kernel_rfl))
  f240 := Tryz.func99.trans (congrArg some (by kernel_rfl))
  f241 := Tryz.func131.trans (congrArg some (by kernel_rfl))
  f263 := Tryz.func128.trans (congrArg some (by kernel_rfl))
  f264 := Tryz.func129.trans (congrArg some (by kernel_rfl))
  f276 := Tryz.func123.trans (congrArg some (by kernel_rfl))
  f277 := Tryz.func142.trans (congrArg some (by kernel_rfl))
  t0 := Tryz.underlying0
  a0 := Tryz.isAgg0
  z0 := Tryz.sizeOf0
  v0 := Tryz.zeroValue0
  t3 := Tryz.underlying3
  a3 := Tryz.isAgg3
  z3 := Tryz.sizeOf3
  v3 := Tryz.zeroValue3
  t4 := Tryz.underlying4
  a4 := Tryz.isAgg4
  z4 := Tryz.sizeOf4
  v4 := Tryz.zeroValue4
  t5 := Tryz.underlying5
  a5 := Tryz.isAgg5
  z5 := Tryz.sizeOf5
  v5 := Tryz.zeroValue5
  t9 := Tryz.underlying9
  a9 := Tryz.isAgg9
  z9 := Tryz.sizeOf9
  v9 := Tryz.zeroValue9
  t20 := Tryz.underlying20
  a20 := Tryz.isAgg20
  z20 := Tryz.sizeOf20
  v20 := Tryz.zeroValue20
  t37 := Tryz.underlying79
  a37 := Tryz.isAgg79
  z37 := Tryz.sizeOf79
  v37 := Tryz.zeroValue79
  t46 := Tryz.underlying64
  a46 := Tryz.isAgg64
  z46 := Tryz.sizeOf64
  v46 := Tryz.zeroValue64
  t51 := Tryz.underlying66
  a51 := Tryz.isAgg66
  z51 := Tryz.sizeOf66
  v51 := Tryz.zeroValue66
  t53 := Tryz.underlying65
  a53 := Tryz.isAgg65
  z53 := Tryz.sizeOf65
  v53 := Tryz.zeroValue65
  t70 := Tryz.underlying78
  a70 := Tryz.isAgg78
  z70 := Tryz.sizeOf78
  v70 := Tryz.zeroValue78
  t72 := Tryz.underlying81
  a72 := Tryz.isAgg81
  z72 := Tryz.sizeOf81
  v72 := Tryz.zeroValue81
  t75 := Tryz.underlying83
  a75 := Tryz.isAgg83
  z75 := Tryz.sizeOf83
  v75 := Tryz.zeroValue83
  t76 := Tryz.underlying85
  a76 := Tryz.isAgg85
  z76 := Tryz.sizeOf85
  v76 := Tryz.zeroValue85
  t109 := Tryz.underlying110
  a109 := Tryz.isAgg110
  z109 := Tryz.sizeOf110
  v109 := Tryz.zeroValue110
  t127 := Tryz.underlying113
  a127 := Tryz.isAgg113
  z127 := Tryz.sizeOf113
  v127 := Tryz.zeroValue113
  t146 := Tryz.underlying132
  a146 := Tryz.isAgg132
  z146 := Tryz.sizeOf132
  v146 := Tryz.zeroValue132
  t148 := Tryz.underlying134
  a148 := Tryz.isAgg134
  z148 := Tryz.sizeOf134
  v148 := Tryz.zeroValue134
  t164 := Tryz.underlying124
  a164 := Tryz.isAgg124
  z164 := Tryz.sizeOf124
  v164 := Tryz.zeroValue124 }
theorem Tryz.Builder_Extra_105 : Builder.Extra Tryz.prog Tryz.lays105_ren := {
  sizeBuilder := by kernel_rfl
  liesBuilder := by kernel_rfl
  t5 := Tryz.underlying5
  a5 := Tryz.isAgg5
  z5 := Tryz.sizeOf5
  v5 := Tryz.zeroValue5
  infoByte := by kernel_rfl
  cellsByte := by kernel_rfl
  sizeByte := by kernel_rfl
  neB5 := by decide }
open Go.RowKit Go.Lib in
theorem Tryz.strings_Repeat (s : ByteArray) (c : Nat) (w : World) (hc : c ≤ 9223372036854775807) (hlen : s.size * c ≤ 140737488355328) :
    Calls Tryz.prog 68 #[.string s, .int .i64 c] w fun e w' => e = .returned (.string ⟨(Lib.repeatL s.data.toList c).toArray⟩) ∧ Below w.heap.size w w' := Any.strings_Repeat Tryz.lays105 Tryz.Builder_Extra_105 s c w hc hlen
end Go.Proofs

namespace Go.Proofs.YtlpclahlolhjfaaGreatDoor
open Go.RowKit

theorem Tryz.infoU32 : (Tryz.prog.info? 66).map (fun i => (i.zero, i.size, i.bytes)) = some (some (.int .u32 0), 1, 4) := by kernel_rfl

theorem Tryz.sizeU32 : (Tryz.prog.info? 66).map (·.size) = some 1 := by kernel_rfl

/-- 'make([]uint32, n)': a new block of zeros -/
theorem wpList_make_u32 (w : World) {ops : Array Oper} {rest : List Oper} {o : Oper} {a : Act} {Q : Exit → Act → World → Prop}
    (hg : o.guard = none) (l c : Operand) (hop : o.op = Op.makeSlice 25 l c) (L : Int) (n : Nat)
    (hl : a.eval l = .int .i64 L) (hc : a.eval c = .int .i64 L) (hL : L = (n : Int)) (hn : n ≤ 1099511627776)
    (hK : ∀ w', Blk w' w.heap.size (List.replicate n 0) → Below w.heap.size w w' → wpList Tryz.prog ops Q rest (a.put o.dst (.slice (some ⟨w.heap.size, 0, none⟩) n n)) w') :
    wpList Tryz.prog ops Q (o :: rest) a w := by
  obtain ⟨i0, hi, hz0, hz1, hz2⟩ := info_parts Tryz.infoU32
  refine wpList_make_full w hg l c 25 hop w.heap.size 66 i0 (.int .u32 0) 1 Tryz.underlying25 hi hz0 hz1 _ _ _ _ n hl hc hL hL (by rw [hz2]; omega) (by unfold maxLen; omega) (Nat.le_refl _) ?_
  intro w' ho hgr
  exact hK w' (blk_made ho rfl) ((Below.refl _ w).grown hgr (Nat.le_refl _) (fun k hk => by cases hk))

set_option maxRecDepth 100000 in
set_option maxHeartbeats 400000 in
theorem clone_any (ao : Option Addr) (n cap : Nat) (zs : List Int) (w : World) (h : Sl w ao n cap zs) :
    Calls Tryz.prog 89 #[.slice ao n cap] w fun e w' => e = .returned (.slice (some ⟨w.heap.size, 0, none⟩) n n) ∧ Blk w' w.heap.size zs ∧ Below w.heap.size w w' := by
  have hn := h.big
  go_enter Tryz.func89, Tryz.ntmps89
  go_wp2_with (refine wpList_make_u32 _ rfl _ _ rfl _ n rfl rfl rfl hn ?_)
  intro w1 hb1 hw1
  go_wp2_with (with_reducible refine wpList_copy_u32 rfl (.tmp 7) (.tmp 8) rfl Tryz.underlying25 Tryz.sizeU32 _ 0 n n ao n cap rfl rfl _ hb1 zs (h.below hw1) (Nat.le_refl _) (by simp) ?_)
  intro w2 hb2 hw2
  go_wp2
  go_ret
  refine ⟨rfl, ?_, hw1.trans (hw2.below (Nat.le_refl _))⟩
  have := h.len
  simpa [splice, this] using hb2
end Go.Proofs.YtlpclahlolhjfaaGreatDoor

namespace Go.Proofs.YtlpclahlolhjfaaGreatDoor
open Go.RowKit

/-- the first k rows of the product are in Lk, and nothing stands above them -/
def PRows (a b Lk : List Int) (n k : Nat) : Prop :=
  Lk.length = n + b.length ∧ Wf Lk ∧ num Lk = num a * num (b.take k) ∧ ∀ i, n + k ≤ i → Lk.getD i 0 = 0

theorem getD_replicate (n i : Nat) : (List.replicate n (0 : Int)).getD i 0 = 0 := by
  by_cases h : i < n <;> simp [List.getD, h]

theorem PRows.start (a b : List Int) (n m : Nat) (hm : b.length = m) : PRows a b (List.replicate (n + m) 0) n 0 :=
  ⟨by simp [hm], Wf.replicate _, by simp [num_replicate, num], fun i _ => getD_replicate _ i⟩

theorem mul_bounds {x y : Int} (x0 : 0 ≤ x) (x1 : x < 4294967296) (y0 : 0 ≤ y) (y1 : y < 4294967296) : 0 ≤ x * y ∧ x * y ≤ 18446744065119617025 := by
  refine ⟨Int.mul_nonneg x0 y0, ?_⟩
  have h1 : x * y ≤ 4294967295 * y := Int.mul_le_mul_of_nonneg_right (by omega) y0
  omega

theorem row_step (k j : Nat) (x y N : Int) : 4294967296 ^ k * (x * N) + 4294967296 ^ (k + j) * (x * y) = 4294967296 ^ k * (x * (N + 4294967296 ^ j * y)) := by
  rw [Int.pow_add, Int.mul_add, Int.mul_add, Int.mul_assoc, Int.mul_left_comm (4294967296 ^ j) x y]

theorem getD_of_drop_le {zs ys : List Int} {k i : Nat} (h : zs.drop k = ys.drop k) (hi : k ≤ i) : zs.getD i 0 = ys.getD i 0 := by
  have := congrArg (fun l => l.getD (i - k) 0) h
  simpa [List.getD, show k + (i - k) = i by omega] using this

theorem PRows.step {a b Lk L' : List Int} {n k : Nat} {x : Int} {i : Nat} (h : PRows a b Lk n k) (st : Added Lk L' (i + 1) 0 (4294967296 ^ k * (x * num a))) (hi : i = k + n) (hk : k < b.length) (hx : b.getD k 0 = x) :
    PRows a b L' n (k + 1) := by
  obtain ⟨h1, h2, h3, h4⟩ := h
  refine ⟨by rw [st.1, h1], st.2.1, ?_, ?_⟩
  · rw [st.done, h3, num_take_succ b k hk, hx, Int.mul_add]
    congr 1
    rw [Int.mul_comm x, Int.mul_left_comm]
  · intro j hj
    rw [getD_of_drop_le st.2.2.1 (by omega)]
    exact h4 j (by omega)

set_option maxRecDepth 100000 in
set_option maxHeartbeats 2000000 in
theorem long_any (xs ys : List Int) (ao bo : Option Addr) (n m ca cb : Nat) (w : World) (ha : Sl w ao n ca xs) (hb : Sl w bo m cb ys) (hn : n ≤ 1000000000) (hm : m ≤ 1000000000) :
    Calls Tryz.prog 93 #[.slice ao n ca, .slice bo m cb] w fun e w' => ∃ ao' k cap, e = .returned (.slice ao' k cap) ∧ Sl w' ao' k cap (limbs (num xs * num ys).toNat) ∧ Below w.heap.size w w' := by
  have hst := PRows.start xs ys n m hb.len
  have HS := Lib.hid hst; clear hst
  go_enter Tryz.func93, Tryz.ntmps93
  go_wp2_with (refine wpList_make_u32 _ rfl _ _ rfl _ (n + m) rfl rfl (by omega) (by omega) ?_)
  intro w1 hb1 hw1
  have ha1 := ha.below hw1
  have hb1' := hb.below hw1
  have hsa := ha.cells.stay_below hw1 (Nat.le_refl _)
  have hsb := hb.cells.stay_below hw1 (Nat.le_refl _)
  generalize hg : w.heap.size = g at *
  have HG := Lib.hid hg; clear hg
  go_wp2
  go_loopw [6, 7, 8, 9, 10, 11, 20, 35] (fun _ _ _ _ _ _ i _ wr => ∃ (k : Nat) (Lk : List Int), k ≤ m ∧ i = .int .i64 k ∧ PRows xs ys Lk n k ∧ Blk wr g Lk ∧ Only g w1 wr)
    (fun _ _ _ _ _ _ i _ _ => m - (intOf i).toNat)
  case atStart => exact ⟨0, _, Nat.zero_le _, rfl, HS.out, hb1, Only.refl g w1⟩
  case round =>
    obtain ⟨k, Lk, hk, rfl, hP, hbk, ho⟩ := hrel
    by_cases hlt : k < m
    · obtain ⟨bb, ob, rfl, hcb⟩ := hsb _ ho (by rw [hb.len]; omega)
      have c1 := hcb k (by rw [hb.len]; omega)
      clear hcb
      have hxr := hb.wf.getD k
      obtain ⟨x, hx⟩ : ∃ x, ys.getD k 0 = x := ⟨_, rfl⟩
      rw [hx] at c1 hxr
      have HX := Lib.hid hx; clear hx
      obtain ⟨x0, x1⟩ := hxr
      have HP := Lib.hid hP; clear hP
      go_wp2
      go_loopw [9, 10, 11, 35] (fun c _ _ i wr => ∃ (j : Nat) (cc : Int) (Li : List Int), j ≤ n ∧ i = .int .i64 j ∧ c = .int .u64 cc ∧ 0 ≤ cc ∧ cc ≤ 4294967295 ∧ Added Lk Li (k + j) cc (4294967296 ^ k * (x * num (xs.take j))) ∧ Blk wr g Li ∧ Only g w1 wr)
        (fun _ _ _ i _ => n - (intOf i).toNat)
      case atStart => exact ⟨0, 0, Lk, Nat.zero_le _, rfl, rfl, by omega, by omega, Added.at HP.out.2.1 k, hbk, ho⟩
      case round =>
        obtain ⟨j, cc, Li, hj, rfl, rfl, hc0, hc1, hA, hbi, hoi⟩ := hrel
        have hlen : Li.length = n + m := by rw [hA.1, HP.out.1, hb.len]
        have hlen2 : Lk.length = n + m := by rw [HP.out.1, hb.len]
        by_cases hjt : j < n
        · obtain ⟨ba, oa, rfl, hca⟩ := hsa _ hoi (by rw [ha.len]; omega)
          have c2 := hca j (by rw [ha.len]; omega)
          clear hca
          have hyr := ha.wf.getD j
          obtain ⟨y, hy⟩ : ∃ y, xs.getD j 0 = y := ⟨_, rfl⟩
          rw [hy] at c2 hyr
          have HY := Lib.hid hy; clear hy
          obtain ⟨y0, y1⟩ := hyr
          have c3 := hbi.cell (k + j) (by omega)
          have c4 := hbi.frozen (k + j)
          rw [getD_of_drop hA.2.2.1] at c3
          have hzr := HP.out.2.1.getD (k + j)
          obtain ⟨z, hz⟩ : ∃ z, Lk.getD (k + j) 0 = z := ⟨_, rfl⟩
          rw [hz] at c3 hzr
          have HZ := Lib.hid hz; clear hz
          obtain ⟨z0, z1⟩ := hzr
          obtain ⟨p0, p1⟩ := mul_bounds x0 x1 y0 y1
          have HLn := Lib.hid hlen; clear hlen
          have HLn2 := Lib.hid hlen2; clear hlen2
          go_wp2
          go_roundw
          case rel =>
            have st := hA.step (by rw [HLn2.out]; omega) (x * y) (cc + (x * y + z)) (by rw [HZ.out]; omega)
            rw [row_step, ← HY.out, ← num_take_succ xs j (by rw [ha.len]; exact hjt), HY.out] at st
            exact ⟨j + 1, _, _, by omega, by go_num, rfl, by omega, by omega, st, hbi.set _ _, hoi.setCell _ _⟩
          case measure => simp [intOf] <;> omega
        · obtain rfl : j = n := by omega
          have HLn := Lib.hid hlen; clear hlen
          have HLn2 := Lib.hid hlen2; clear hlen2
          have c4 := hbi.frozen (k + j)
          have c3 := hbi.cell (k + j) (by rw [HLn.out]; omega)
          go_wp2
          go_roundw
          case rel =>
            have hz0 := HP.out.2.2.2 (k + j) (by omega)
            have st := hA.step (by rw [HLn2.out]; omega) 0 cc (by rw [hz0]; omega)
            rw [Int.emod_eq_of_lt hc0 (by omega), Int.ediv_eq_zero_of_lt hc0 (by omega), Int.mul_zero, Int.add_zero, List.take_of_length_le (by rw [ha.len]; exact Nat.le_refl _)] at st
            exact ⟨k + 1, _, by omega, by go_num, HP.out.step st (by omega) (by rw [hb.len]; exact hlt) HX.out, hbi.set _ _, hoi.setCell _ _⟩
          case measure => simp [intOf] <;> omega
    · obtain rfl : k = m := by omega
      have hlen : Lk.length = n + k := by rw [hP.1, hb.len]
      have HLn := Lib.hid hlen; clear hlen
      have HP := Lib.hid hP; clear hP
      go_wp2_with fail
      refine (trim_sl _ _ _ Lk wr (hbk.sl HP.out.2.1 HLn.out (by omega) (Nat.le_refl _))).mono ?_
      rintro e w4 ⟨i, rfl, hs, rfl⟩
      go_wp2
      go_ret
      refine ⟨_, i, _, rfl, ?_, by rw [HG.out]; exact hw1.trans (ho.below (Nat.le_refl _))⟩
      rw [HP.out.2.2.1, List.take_of_length_le (by rw [hb.len]; exact Nat.le_refl _)] at hs
      exact hs
end Go.Proofs.YtlpclahlolhjfaaGreatDoor
