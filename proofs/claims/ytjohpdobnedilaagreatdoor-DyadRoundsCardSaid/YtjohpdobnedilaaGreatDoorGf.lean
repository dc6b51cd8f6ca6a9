/- What integer.bitLen does. -/
import Derived.Test.YtjohpdobnedilaaGreatDoorGd
import Derived.Test.YtjohpdobnedilaaGreatDoorGa
import Derived.Shelf.Spec.TrailingZeros
import Derived.Test.YtjohpdobnedilaaGreatDoorGe
namespace Go.Proofs.YtjohpdobnedilaaGreatDoor
open Go.RowKit

/-- how many bits a number has -/
def blen (a : Nat) : Nat := if a = 0 then 0 else Nat.log2 a + 1

theorem blen_of {a k : Nat} (h0 : 2 ^ k ≤ a) (h1 : a < 2 ^ (k + 1)) : blen a = k + 1 := by
  have ha : a ≠ 0 := by have := Nat.pos_of_ne_zero (show 2 ^ k ≠ 0 by simp); omega
  unfold blen
  rw [if_neg ha, (Nat.log2_eq_iff ha).2 ⟨h0, h1⟩]

theorem blen_mul {a : Nat} (h : a ≠ 0) (k : Nat) : blen (a * 2 ^ k) = blen a + k := by
  have h1 := Nat.log2_self_le h
  have h2 := @Nat.lt_log2_self a
  have e : blen a = Nat.log2 a + 1 := by unfold blen; rw [if_neg h]
  have hp : 0 < 2 ^ k := Nat.pos_of_ne_zero (by simp)
  rw [e, blen_of (k := Nat.log2 a + k)]
  · omega
  · rw [Nat.pow_add]; exact Nat.mul_le_mul_right _ h1
  · rw [show Nat.log2 a + k + 1 = Nat.log2 a + 1 + k by omega, Nat.pow_add]; exact Nat.mul_lt_mul_of_pos_right h2 hp

theorem blen_top {a m : Nat} (hm : (limbs a).length = m + 1) : ((m : Int) * 32 + (Lib.bitLen ((limbs a).getD m 0).toNat : Int)) = (blen a : Int) := by
  have h1 : a < 4294967296 ^ (m + 1) := (limbs_len_le a (m + 1)).1 (by omega)
  have h2 : 4294967296 ^ m ≤ a := by
    rcases Nat.lt_or_ge a (4294967296 ^ m) with h | h
    · have := (limbs_len_le a m).2 h; omega
    · exact h
  have hpm : 0 < 4294967296 ^ m := Nat.pos_of_ne_zero (by simp)
  have hd1 : a / 4294967296 ^ m < 4294967296 := by
    rw [Nat.div_lt_iff_lt_mul hpm, Nat.mul_comm, ← Nat.pow_succ]; exact h1
  have hd0 : 0 < a / 4294967296 ^ m := Nat.div_pos h2 hpm
  have ht : (limbs a).getD m 0 = ((a / 4294967296 ^ m : Nat) : Int) := by
    rw [limbs_at, Nat.mod_eq_of_lt hd1]
  rw [ht, Int.toNat_natCast]
  have hdm := Nat.div_add_mod a (4294967296 ^ m)
  have hml := Nat.mod_lt a hpm
  generalize htt : a / 4294967296 ^ m = t at *
  generalize a % 4294967296 ^ m = r at *
  obtain ⟨l, e, l0, l1⟩ := bitLen_spec t (by omega) (by omega)
  have hp : (4294967296 : Nat) ^ m = 2 ^ (m * 32) := by rw [Nat.mul_comm, Nat.pow_mul]
  rw [e, blen_of (k := m * 32 + l)]
  · omega
  · rw [Nat.pow_add, ← hp]
    have := Nat.mul_le_mul_left (4294967296 ^ m) l0
    omega
  · rw [Nat.add_assoc, Nat.pow_add, ← hp]
    have := Nat.mul_le_mul_left (4294967296 ^ m) (show t + 1 ≤ 2 ^ (l + 1) from l1)
    rw [Nat.mul_add, Nat.mul_one] at this
    omega

theorem bitLen_32 {x : Nat} (h : x < 4294967296) : Lib.bitLen x ≤ 32 := by
  by_cases h0 : x = 0
  · rw [h0, bitLen_zero]; omega
  · obtain ⟨l, e, l0, _⟩ := bitLen_spec x h0 (by omega)
    rcases Nat.lt_or_ge l 32 with hl | hl
    · omega
    · have := Nat.pow_le_pow_right (show 0 < 2 by omega) hl
      omega

set_option maxRecDepth 100000 in
set_option maxHeartbeats 1000000 in
theorem bitLen_any (a : Nat) (ao : Option Addr) (n ca : Nat) (w : World) (h : Sl w ao n ca (limbs a)) (hn : n ≤ 1000000000) :
    Calls Tryz.prog 120 #[.slice ao n ca] w fun e w' => e = .returned (.int .i64 (blen a)) ∧ w = w' := by
  rcases n with _ | m
  · have h0 : a = 0 := limbs_inj ((List.eq_nil_of_length_eq_zero h.len).trans limbs_zero.symm)
    go_enter Tryz.func120, Tryz.ntmps120
    go_wp2
    go_ret
    exact ⟨by rw [h0]; rfl, rfl⟩
  · have hb := blen_top h.len
    obtain ⟨b, off, rfl, hc⟩ := h.cells (by rw [h.len]; omega)
    have c1 := hc m (by rw [h.len]; omega)
    clear hc
    have hxr := (Wf.limbs a).getD m
    obtain ⟨x, hx⟩ : ∃ x, (limbs a).getD m 0 = x := ⟨_, rfl⟩
    rw [hx] at c1 hxr hb
    obtain ⟨x0, x1⟩ := hxr
    clear hx
    have HB := Lib.hid hb; clear hb
    have em : ((m : Int) + 1 == 0) = false := by apply beq_eq_false_iff_ne.2; omega
    have hl : (Lib.bitLen x.toNat : Int) ≤ 32 := by
      have := bitLen_32 (x := x.toNat) (by omega)
      omega
    go_enter Tryz.func120, Tryz.ntmps120
    go_wp2_with fail
    refine (Tryz.bits_Len32 x w x0 (by omega)).mono ?_
    rintro e w2 ⟨rfl, rfl⟩
    go_wp2
    go_ret
    exact ⟨by rw [← HB.out]; rfl, rfl⟩
end Go.Proofs.YtjohpdobnedilaaGreatDoor

/- What integer.trailingZeros does. -/
namespace Go.Proofs.YtjohpdobnedilaaGreatDoor
open Go.RowKit

/-- the table that bits.TrailingZeros32 reads -/
def Table (w : World) : Prop := TabAt 1 Lib.deBruijn32tab w

theorem Table.below {w w' : World} (h : Table w) (hb : Below w.heap.size w w') : Table w' := by
  intro j hj
  have h1 := h j hj
  rw [hb.cell (p := ⟨_, j, none⟩) (lt_of_cell h1)]
  exact h1

set_option maxRecDepth 100000 in
set_option maxHeartbeats 1000000 in
theorem tz32_at (x k idx : Nat) (w : World) (hx0 : ((x : Int) == 0) = false)
    (key : bits BinOp.and IntKind.u32 (x : Int) (-(x : Int) % 4294967296) * 125613361 % 4294967296 / 134217728 = (idx : Int))
    (hi : idx < 32) (hk : k < 32) (hcell : w.cell? ⟨1, idx, none⟩ = some (.int .u8 k)) :
    Calls Tryz.prog 123 #[.int .u32 x] w fun e w' => e = .returned (.int .i64 k) ∧ w = w' := by
  go_enter Tryz.func123, Tryz.ntmps123
  go_wp2_with (simp only [key])
  go_ret
  exact ⟨rfl, rfl⟩

theorem ctz_lt {x : Nat} (h : x ≠ 0) (h1 : x < 4294967296) : Lib.ctz 32 x < 32 := (Lib.lowest_bit 32 x h h1).2

theorem tz32_any (x : Nat) (h0 : x ≠ 0) (h1 : x < 4294967296) (w : World) (hT : Table w) :
    Calls Tryz.prog 123 #[.int .u32 x] w fun e w' => e = .returned (.int .i64 (Lib.ctz 32 x)) ∧ w = w' := by
  obtain ⟨hlow, hk⟩ := Lib.lowest_bit 32 x h0 h1
  obtain ⟨hi, htab⟩ := Lib.deBruijn32_at _ hk
  have hcell := hT _ hi
  rw [htab] at hcell
  exact tz32_at x _ _ w (by simp; omega) (tz32_key x _ h1 h0 hlow) hi hk hcell

/-- the number of trailing zeros -/
def IsTz (a t : Nat) : Prop := (a = 0 ∧ t = 0) ∨ (a ≠ 0 ∧ ∃ m, a = 2 ^ t * (2 * m + 1))

theorem odd_unique {s t m n : Nat} (h : 2 ^ s * (2 * m + 1) = 2 ^ t * (2 * n + 1)) : s = t := by
  induction s generalizing t with
  | zero =>
    rcases t with _ | t
    · rfl
    · exfalso
      rw [Nat.pow_zero, Nat.one_mul, Nat.pow_succ, Nat.mul_assoc, Nat.mul_left_comm] at h
      omega
  | succ s ih =>
    rcases t with _ | t
    · exfalso
      rw [Nat.pow_zero, Nat.one_mul, Nat.pow_succ, Nat.mul_assoc, Nat.mul_left_comm] at h
      omega
    · rw [Nat.pow_succ, Nat.mul_assoc, Nat.mul_left_comm, Nat.pow_succ, Nat.mul_assoc (2 ^ t), Nat.mul_left_comm (2 ^ t)] at h
      have := ih (t := t) (by omega)
      omega

theorem IsTz.unique {a s t : Nat} (h : IsTz a s) (k : IsTz a t) : s = t := by
  rcases h with ⟨h0, rfl⟩ | ⟨h0, m, hm⟩
  · rcases k with ⟨_, rfl⟩ | ⟨k0, _⟩
    · rfl
    · exact absurd h0 k0
  · rcases k with ⟨k0, _⟩ | ⟨_, n, hn⟩
    · exact absurd k0 h0
    · exact odd_unique (hm.symm.trans hn)

theorem IsTz.mul {a t : Nat} (h : IsTz a t) (h0 : a ≠ 0) (k : Nat) : IsTz (a * 2 ^ k) (t + k) := by
  rcases h with ⟨e, _⟩ | ⟨_, m, hm⟩
  · exact absurd e h0
  · refine Or.inr ⟨Nat.mul_ne_zero h0 (by simp), m, ?_⟩
    rw [hm, Nat.pow_add, Nat.mul_right_comm]

theorem IsTz.dvd {a t : Nat} (h : IsTz a t) (h0 : a ≠ 0) (k : Nat) : t < k ↔ a % 2 ^ k ≠ 0 := by
  rcases h with ⟨e, _⟩ | ⟨_, m, hm⟩
  · exact absurd e h0
  · constructor
    · intro hk hz
      obtain ⟨q, hq⟩ := Nat.dvd_of_mod_eq_zero hz
      rw [hm, show k = t + (k - t - 1 + 1) by omega, Nat.pow_add, Nat.mul_assoc] at hq
      have := Nat.eq_of_mul_eq_mul_left (Nat.pos_of_ne_zero (by simp)) hq
      rw [Nat.pow_succ, Nat.mul_comm (2 ^ (k - t - 1)) 2, Nat.mul_assoc] at this
      omega
    · intro hz
      rcases Nat.lt_or_ge t k with h | h
      · exact h
      · exfalso
        apply hz
        apply Nat.mod_eq_zero_of_dvd
        rw [hm, show t = k + (t - k) by omega, Nat.pow_add, Nat.mul_assoc]
        exact Nat.dvd_mul_right _ _

/-- the first limb that is not zero tells -/
theorem tz_limbs {a j x : Nat} (hz : ∀ i, i < j → (limbs a).getD i 0 = 0) (hx : (limbs a).getD j 0 = (x : Int)) (hx0 : x ≠ 0) (hx1 : x < 4294967296) (hj : j < (limbs a).length) : IsTz a (j * 32 + Lib.ctz 32 x) := by
  have hpj : (0 : Nat) < 4294967296 ^ j := Nat.pos_of_ne_zero (by simp)
  have hlow : num ((limbs a).take j) = 0 := by
    have : ∀ k, k ≤ j → num ((limbs a).take k) = 0 := by
      intro k
      induction k with
      | zero => intro _; simp [num]
      | succ k ih => intro hk; rw [num_take_succ _ _ (by omega), ih (by omega), hz k (by omega)]; simp
    exact this j (Nat.le_refl _)
  have e := num_append ((limbs a).take j) ((limbs a).drop j)
  rw [List.take_append_drop, List.length_take, Nat.min_eq_left (by omega), hlow, num_limbs, List.drop_eq_getElem_cons hj, num, ← getD_at hj, hx] at e
  have hwd := num_nonneg ((Wf.limbs a).drop (j + 1))
  obtain ⟨q, hq⟩ := Int.eq_ofNat_of_zero_le hwd
  rw [hq] at e
  have e2 : a = 4294967296 ^ j * (x + 4294967296 * q) := by
    apply Int.ofNat.inj
    show (a : Int) = _
    rw [e, Int.zero_add]
    push_cast
    rfl
  have hc : Lib.ctz 32 x = Lib.ctzFrom 32 x := by unfold Lib.ctz; rw [if_neg hx0]
  obtain ⟨m, hm, hlt⟩ := Lib.ctzFrom_spec 32 x (by omega) (by omega)
  rw [hc]
  generalize Lib.ctzFrom 32 x = t at *
  have hp32 : (4294967296 : Nat) = 2 ^ t * (2 * 2 ^ (31 - t)) := by
    rw [← Nat.pow_succ', ← Nat.pow_add, show t + (31 - t + 1) = 32 by omega]
  refine Or.inr ⟨?_, m + 2 ^ (31 - t) * q, ?_⟩
  · rw [e2]; exact Nat.mul_ne_zero (by omega) (by omega)
  · have e3 : x + 4294967296 * q = 2 ^ t * (2 * (m + 2 ^ (31 - t) * q) + 1) := by
      conv => lhs; rw [hm, hp32]
      rw [Nat.mul_assoc (2 ^ t), ← Nat.mul_add, Nat.mul_assoc 2]
      congr 1
      omega
    rw [e2, e3, Nat.mul_comm j 32, Nat.pow_add, Nat.pow_mul, Nat.mul_assoc]

set_option maxRecDepth 100000 in
set_option maxHeartbeats 1000000 in
theorem trailingZeros_any (a : Nat) (ao : Option Addr) (n ca : Nat) (w : World) (h : Sl w ao n ca (limbs a)) (hn : n ≤ 1000000000) (hT : Table w) :
    Calls Tryz.prog 117 #[.slice ao n ca] w fun e w' => ∃ t : Nat, e = .returned (.int .i64 t) ∧ IsTz a t ∧ w = w' := by
  have hl := h.len
  have HL := Lib.hid hl; clear hl
  have HT := Lib.hid hT; clear hT
  go_enter Tryz.func117, Tryz.ntmps117
  go_wp2
  go_loop [3, 4, 7] (fun _ _ k => ∃ j : Nat, j ≤ n ∧ k = .int .i64 j ∧ ∀ i, i < j → (limbs a).getD i 0 = 0) (fun _ _ k => n - (intOf k).toNat)
  case atStart => exact ⟨0, Nat.zero_le _, rfl, fun i hi => absurd hi (Nat.not_lt_zero _)⟩
  case round =>
    obtain ⟨j, hj, rfl, hz⟩ := hrel
    have HZ := Lib.hid hz; clear hz
    by_cases hlt : j < n
    · obtain ⟨b, off, rfl, hc⟩ := h.cells (by rw [HL.out]; omega)
      have c1 := hc j (by rw [HL.out]; omega)
      clear hc
      have hxr := (Wf.limbs a).getD j
      obtain ⟨x, hx⟩ : ∃ x, (limbs a).getD j 0 = x := ⟨_, rfl⟩
      rw [hx] at c1 hxr
      obtain ⟨x0, x1⟩ := hxr
      have HX := Lib.hid hx; clear hx
      by_cases hy : x = 0
      · subst hy
        go_wp2
        go_round
        case rel =>
          refine ⟨j + 1, by omega, by go_num, fun i hi => ?_⟩
          rcases Nat.lt_or_ge i j with h | h
          · exact HZ.out i h
          · obtain rfl : i = j := by omega
            exact HX.out
        case measure => simp [intOf] <;> omega
      · have hy0 : (x == 0) = false := beq_eq_false_iff_ne.2 hy
        have hct := ctz_lt (x := x.toNat) (by omega) (by omega)
        have hxn : ((x.toNat : Nat) : Int) = x := Int.toNat_of_nonneg x0
        have HI := Lib.hid (tz_limbs HZ.out (HX.out.trans hxn.symm) (by omega) (by omega) (by rw [HL.out]; exact hlt))
        have hz32 := tz32_any x.toNat (by omega) (by omega) w HT.out
        rw [hxn] at hz32
        have HTZ := Lib.hid hz32
        clear hz32 hxn hy
        generalize Lib.ctz 32 x.toNat = t at *
        go_wp2_with fail
        refine HTZ.out.mono ?_
        rintro e w2 ⟨rfl, rfl⟩
        go_wp2
        go_ret
        exact ⟨_, rfl, HI.out, rfl⟩
    · obtain rfl : j = n := by omega
      have h0 : a = 0 := by
        rcases Nat.eq_zero_or_pos a with h | h
        · exact h
        · exfalso
          have hne : limbs a ≠ [] := by rw [limbs_pos (by omega)]; simp
          have hp : 0 < (limbs a).length := List.length_pos_iff.2 hne
          have hlow : num ((limbs a).take j) = 0 := by
            have : ∀ k, k ≤ j → num ((limbs a).take k) = 0 := by
              intro k
              induction k with
              | zero => intro _; simp [num]
              | succ k ih => intro hk; rw [num_take_succ _ _ (by rw [HL.out]; omega), ih (by omega), HZ.out k (by omega)]; simp
            exact this j (Nat.le_refl _)
          rw [List.take_of_length_le (by rw [HL.out]; exact Nat.le_refl _), num_limbs] at hlow
          omega
      go_wp2
      go_ret
      exact ⟨0, rfl, Or.inl ⟨by first | rfl | exact h0, rfl⟩, rfl⟩
end Go.Proofs.YtjohpdobnedilaaGreatDoor

/- What integer.BitLen, TrailingZeros and Shift do. -/
namespace Go.Proofs.YtjohpdobnedilaaGreatDoor
open Go.RowKit

theorem limbs_len_toNat {zs : List Int} (h : Wf zs) : (limbs (num zs).toNat).length ≤ zs.length := by
  rw [tlen_eq h]; exact tlen_le _ _

set_option maxRecDepth 100000 in
set_option maxHeartbeats 1000000 in
theorem bitLenOut_any (nb : Bool) (ao : Option Addr) (n cap : Nat) (x : Int) (w : World) (h : Bg w nb ao n cap x) :
    Calls Tryz.prog 48 #[.agg #[.bool nb, .slice ao n cap]] w fun e w' => e = .returned (.int .i64 (blen x.natAbs)) ∧ Below w.heap.size w w' := by
  obtain ⟨⟨zs, hs, hx⟩, hsm⟩ := h
  have eax : (num zs).toNat = x.natAbs := by rw [hx, sgd_natAbs hs.wf]
  clear hx
  go_enter Tryz.func48, Tryz.ntmps48
  go_wp2_with fail
  obtain ⟨W, hW, hB, hbx, hsz⟩ := box_new w nb ao n cap
  rw [← hW]
  clear hW
  have hs0 := hs.below hB
  generalize hBe : w.heap.size = B at *
  have HBe := Lib.hid hBe; clear hBe
  have k0 := hbx.c0
  have k1 := hbx.c1
  go_wp2_with fail
  refine (trim_sl ao n cap zs W hs0).mono ?_
  rintro e w1 ⟨k, rfl, hs1, rfl⟩
  rw [eax] at hs1
  have hk : k ≤ n := by
    have h1 := limbs_len_toNat hs0.wf
    rw [hs0.len, eax, hs1.len] at h1
    exact h1
  go_wp2_with fail
  refine (bitLen_any x.natAbs ao k cap W hs1 (by omega)).mono ?_
  rintro e w1 ⟨rfl, rfl⟩
  go_wp2
  go_ret
  exact ⟨rfl, by rw [HBe.out]; exact hB⟩

set_option maxRecDepth 100000 in
set_option maxHeartbeats 1000000 in
theorem trailingZerosOut_any (nb : Bool) (ao : Option Addr) (n cap : Nat) (x : Int) (w : World) (h : Bg w nb ao n cap x) (hT : Table w) :
    Calls Tryz.prog 50 #[.agg #[.bool nb, .slice ao n cap]] w fun e w' => ∃ t : Nat, e = .returned (.int .i64 t) ∧ IsTz x.natAbs t ∧ Below w.heap.size w w' := by
  obtain ⟨⟨zs, hs, hx⟩, hsm⟩ := h
  have eax : (num zs).toNat = x.natAbs := by rw [hx, sgd_natAbs hs.wf]
  clear hx
  go_enter Tryz.func50, Tryz.ntmps50
  go_wp2_with fail
  obtain ⟨W, hW, hB, hbx, hsz⟩ := box_new w nb ao n cap
  rw [← hW]
  clear hW
  have hs0 := hs.below hB
  have HT := Lib.hid (hT.below hB)
  generalize hBe : w.heap.size = B at *
  have HBe := Lib.hid hBe; clear hBe
  have k0 := hbx.c0
  have k1 := hbx.c1
  clear hT
  go_wp2_with fail
  refine (trim_sl ao n cap zs W hs0).mono ?_
  rintro e w1 ⟨k, rfl, hs1, rfl⟩
  rw [eax] at hs1
  have hk : k ≤ n := by
    have h1 := limbs_len_toNat hs0.wf
    rw [hs0.len, eax, hs1.len] at h1
    exact h1
  go_wp2_with fail
  refine (trailingZeros_any x.natAbs ao k cap W hs1 (by omega) HT.out).mono ?_
  rintro e w1 ⟨t, rfl, ht, rfl⟩
  go_wp2
  go_ret
  exact ⟨t, rfl, ht, by rw [HBe.out]; exact hB⟩

theorem sgd_abs {nb : Bool} {zs : List Int} {x : Int} (hx : x = sgd nb zs) (h : Wf zs) : x = if nb then - (x.natAbs : Int) else x.natAbs := by
  have e := sgd_natAbs (nb := nb) h
  have h0 := num_nonneg h
  rw [hx, e]
  cases nb <;> simp [sgd] <;> omega

set_option maxRecDepth 100000 in
set_option maxHeartbeats 2000000 in
theorem shift_left (nb : Bool) (ao : Option Addr) (n cap : Nat) (x : Int) (k : Nat) (w : World) (h : Bg w nb ao n cap x) (hk : k ≤ 1048576) :
    Calls Tryz.prog 46 #[.agg #[.bool nb, .slice ao n cap], .int .i64 (k : Int)] w fun e w' => ∃ nr ro l cr, e = .returned (.tuple #[.agg #[.bool nr, .slice ro l cr], .int .i64 0]) ∧ Bn w' nr ro l cr (x * 2 ^ k) ∧ Below w.heap.size w w' := by
  obtain ⟨⟨zs, hs, hx⟩, hsm⟩ := h
  have eax : (num zs).toNat = x.natAbs := by rw [hx, sgd_natAbs hs.wf]
  have hx2 := Lib.hid (sgd_abs hx hs.wf)
  clear hx
  go_enter Tryz.func46, Tryz.ntmps46
  go_wp2_with fail
  obtain ⟨W, hW, hB, hbx, hrx, hz⟩ := boxes1 w nb ao n cap
  rw [← hW]
  clear hW
  have hs0 := hs.below hB
  generalize hBe : w.heap.size = B at *
  have HBe := Lib.hid hBe; clear hBe
  have k0 := hbx.c0
  have k1 := hbx.c1
  obtain ⟨m, hm, hs1, ht1⟩ := trim_zs hs0 _ eax
  have HT1 := Lib.hid ht1; clear ht1 eax
  go_wp2_with fail
  refine (HT1.out W hs0).mono ?_
  rintro e w1 ⟨rfl, rfl⟩
  clear hs hs0 HT1
  go_wp2_with fail
  go_region_held3 (fun w' => w'.cell? ⟨B, 0, none⟩ = some (.bool nb) ∧ w'.cell? ⟨B, 1, none⟩ = some (.slice ao n cap))
    (first | exact ⟨k0, k1⟩ | exact ⟨x2.c0, x2.c1⟩ | exact ⟨x3.c0, x3.c1⟩ | (refine ⟨?_, ?_⟩ <;> go_simp))
    (first
      | (go_at_call 115; refine (shiftUp_any x.natAbs k ao m cap _ (by exact hs1.below ((Below.refl _ _).drew)) (by omega) (by omega)).mono ?_; rintro e w2 ⟨so, sl, sc, rfl, hs2, hw2⟩; have x2 := (hbx.below ((Below.refl _ _).drew)).below hw2; have y2 := (hrx.below ((Below.refl _ _).drew)).below hw2)
      | (go_at_call 114; refine (signed_any _ _ _ _ _ _ (by exact hs2)).mono ?_; rintro e w3 ⟨ro, cr, rfl, hs3, hw3⟩; have x3 := x2.below hw3; have y3 := y2.below hw3; have q0 := y3.c0; have q1 := y3.c1; have q2 := y3.f 0; have q3 := y3.f 1; have e0 := x3.c0; have e1 := x3.c1))
  have z3 := y3.stored (nb && decide (0 < sl)) ro sl cr
  have z0 := z3.c0
  have z1 := z3.c1
  go_wp2
  refine bodyPost_ret (v := .tuple #[.agg #[.bool (nb && decide (0 < sl)), .slice ro sl cr], .int .i64 0]) (by simp [results, Tryz.results46, go_sem, z0, z1]) rfl ⟨_, ro, sl, cr, rfl, ?_, ?_⟩
  · refine bn_of (hs3.only_box y3 (only_set2 _ _ _ _)) rfl ?_
    conv => lhs; rw [hx2.out]
    cases nb <;> simp [Int.neg_mul]
  · obtain ⟨b1, l1⟩ := bnext hB (by omega) (Below.refl _ W).drew
    obtain ⟨b2, l2⟩ := bnext b1 l1 hw2
    obtain ⟨b3, l3⟩ := bnext b2 l2 hw3
    rw [HBe.out]
    exact b3.trans ((only_set2 _ _ _ _).below (by omega))

theorem down_plain {nb : Bool} {x : Int} {k : Nat} (hx : x = if nb then - (x.natAbs : Int) else x.natAbs) (h : x < 0 → x.natAbs % 2 ^ k = 0) :
    x / 2 ^ k = if nb then - ((x.natAbs / 2 ^ k : Nat) : Int) else ((x.natAbs / 2 ^ k : Nat) : Int) := by
  have hc : ((2 ^ k : Nat) : Int) = 2 ^ k := by rw [Int.natCast_pow]; rfl
  have hp : 0 < 2 ^ k := Nat.pos_of_ne_zero (by simp)
  rw [← hc]
  generalize 2 ^ k = p at *
  generalize x.natAbs = a at *
  cases nb with
  | false => simp only [Bool.false_eq_true, if_false] at hx ⊢; rw [hx, Int.natCast_ediv]
  | true =>
    simp only [if_true] at hx ⊢
    by_cases h0 : a = 0
    · subst h0; rw [hx]; simp
    · have hd : (p : Int) ∣ (a : Int) := Int.natCast_dvd_natCast.2 (Nat.dvd_of_mod_eq_zero (h (by omega)))
      rw [hx, Int.neg_ediv_of_dvd hd, Int.natCast_ediv]

theorem down_adj {x : Int} {k : Nat} (h0 : x < 0) (h : x.natAbs % 2 ^ k ≠ 0) : x / 2 ^ k = - ((x.natAbs / 2 ^ k + 1 : Nat) : Int) := by
  have hc : ((2 ^ k : Nat) : Int) = 2 ^ k := by rw [Int.natCast_pow]; rfl
  have hp : 0 < 2 ^ k := Nat.pos_of_ne_zero (by simp)
  have hx : x = - (x.natAbs : Int) := by omega
  rw [← hc]
  generalize 2 ^ k = p at *
  generalize x.natAbs = a at *
  have hdm := Nat.div_add_mod a p
  have hlt := Nat.mod_lt a hp
  generalize a / p = q at *
  generalize a % p = r at *
  have e : x = (p - r : Int) + (-(q + 1 : Nat) : Int) * p := by
    rw [hx, ← hdm]
    push_cast
    rw [Int.neg_mul, Int.add_mul, Int.one_mul, Int.mul_comm (p : Int)]
    omega
  rw [e, Int.add_mul_ediv_right _ _ (by omega), Int.ediv_eq_zero_of_lt (by omega) (by omega)]
  omega

set_option maxRecDepth 100000 in
set_option maxHeartbeats 4000000 in
theorem shift_right (nb : Bool) (ao : Option Addr) (n cap : Nat) (x : Int) (k : Nat) (w : World) (h : Bg w nb ao n cap x) (hk : k ≤ 1048576) (hk0 : 0 < k) (hT : Table w) :
    Calls Tryz.prog 46 #[.agg #[.bool nb, .slice ao n cap], .int .i64 (-(k : Int))] w fun e w' => ∃ nr ro l cr, e = .returned (.tuple #[.agg #[.bool nr, .slice ro l cr], .int .i64 0]) ∧ Bn w' nr ro l cr (x / 2 ^ k) ∧ Below w.heap.size w w' := by
  have hbg := h
  obtain ⟨⟨zs, hs, hx⟩, hsm⟩ := h
  have eax : (num zs).toNat = x.natAbs := by rw [hx, sgd_natAbs hs.wf]
  have hx2 := Lib.hid (sgd_abs hx hs.wf)
  clear hx
  go_enter Tryz.func46, Tryz.ntmps46
  go_wp2_with fail
  obtain ⟨W, hW, hB, hbx, hrx, hz⟩ := boxes1 w nb ao n cap
  rw [← hW]
  clear hW
  have hs0 := hs.below hB
  have hbg0 := hbg.below hB
  have HT := Lib.hid (hT.below hB)
  generalize hBe : w.heap.size = B at *
  have HBe := Lib.hid hBe; clear hBe
  have k0 := hbx.c0
  have k1 := hbx.c1
  obtain ⟨m, hm, hs1, ht1⟩ := trim_zs hs0 _ eax
  have HT1 := Lib.hid ht1; clear ht1 eax
  go_wp2_with fail
  refine (HT1.out W hs0).mono ?_
  rintro e w1 ⟨rfl, rfl⟩
  clear hs hs0 HT1 hT hbg
  go_wp2_with fail
  refine (shiftDown_any x.natAbs k ao m cap _ hs1 (by omega) (by omega)).mono ?_
  rintro e w2 ⟨so, sl, sc, rfl, hs2, hw2⟩
  have x2 := hbx.below hw2
  have y2 := hrx.below hw2
  have hs12 := hs1.below hw2
  have hbg2 := hbg0.below hw2
  have HT2 := Lib.hid (HT.out.below hw2)
  obtain ⟨b2, l2⟩ := bnext hB (by omega) hw2
  have hsz2 := hw2.size
  clear k0 k1 hbx hrx hs1 hbg0 HT hB hw2
  have k0 := x2.c0
  have k1 := x2.c1
  go_wp2_with fail
  refine (sign_any nb ao n cap x w2 hbg2).mono ?_
  rintro e w3 ⟨rfl, hw3⟩
  have x3 := x2.below hw3
  have y3 := y2.below hw3
  have hs13 := hs12.below hw3
  have hs23 := hs2.below hw3
  have HT3 := Lib.hid (HT2.out.below hw3)
  obtain ⟨b3, l3⟩ := bnext b2 l2 hw3
  have hsz3 := hw3.size
  clear k0 k1 x2 y2 hs12 hs2 HT2 hw3 b2 l2 hbg2
  have k0 := x3.c0
  have k1 := x3.c1
  by_cases hneg : x < 0
  · have hsg : sgn3 x 0 = -1 := by simp [sgn3, hneg]
    rw [hsg]
    have HNEG := Lib.hid hneg; clear hneg hsg
    go_wp2_with fail
    refine (trailingZeros_any x.natAbs ao m cap w3 hs13 (by omega) HT3.out).mono ?_
    rintro e w4 ⟨t, rfl, ht, rfl⟩
    have hdv := ht.dvd (by have := HNEG.out; omega) k
    have HDV := Lib.hid hdv; clear hdv ht
    by_cases hlt : t < k
    · have hltz : (t : Int) < (k : Int) := by omega
      have hmod := HDV.out.1 hlt
      have HMOD := Lib.hid hmod; clear hmod HDV hlt
      go_wp2_with fail
      have hone : Blk (w3.alloc (.cells #[.int .u32 1] 64)) w3.heap.size [1] := heap_alloc_new w3 _
      have hbw := (Below.refl w3.heap.size w3).alloc (Nat.le_refl _) (.cells #[.int .u32 1] 64)
      have hl1 : limbs 1 = [1] := by rw [limbs_pos (by omega), limbs_zero]; rfl
      have hsone := hone.sl (n := 1) (cap := 1) (Wf.cons (by omega) Wf.nil) rfl (by omega) (Nat.le_refl _)
      rw [← hl1] at hsone
      have hsl : sl ≤ m := by
        have h1 := limbs_mono (Nat.div_le_self x.natAbs (2 ^ k))
        rw [hs13.len, hs23.len] at h1
        exact h1
      refine (plus_any _ _ _ _ _ _ _ _ _ (hs23.below hbw) hsone (by omega) (by omega)).mono ?_
      rintro e w4 ⟨qo, qk, qc, rfl, hs4, hw4⟩
      have hw4' := hbw.trans (hw4.mono (by simp))
      have x4 := x3.below hw4'
      have y4 := y3.below hw4'
      obtain ⟨b4, l4⟩ := bnext b3 l3 hw4'
      have hsz4 := hw4'.size
      clear k0 k1 x3 y3 hs13 hs23 hbw hone hsone hl1 hw4 hw4' b3 l3 HT3
      have k0 := x4.c0
      have k1 := x4.c1
      have hnb : nb = true := by
        have h1 := HNEG.out
        have h2 := hx2.out
        cases nb
        · simp at h2; omega
        · rfl
      subst hnb
      go_wp2_with fail
      refine (signed_any _ _ _ _ _ _ hs4).mono ?_
      rintro e w5 ⟨ro, cr, rfl, hs5, hw5⟩
      have y5 := y4.below hw5
      obtain ⟨b5, l5⟩ := bnext b4 l4 hw5
      clear k0 k1
      have q0 := y5.c0
      have q1 := y5.c1
      have q2 := y5.f 0
      have q3 := y5.f 1
      have z5 := y5.stored (true && decide (0 < qk)) ro qk cr
      have z0 := z5.c0
      have z1 := z5.c1
      have hres := bn_of (x := x / 2 ^ k) (nb := true) (hs5.only_box y5 (only_set2 w5 (B + 1) (.bool (true && decide (0 < qk))) (.slice ro qk cr))) rfl (by rw [down_adj HNEG.out HMOD.out]; simp)
      have HRES := Lib.hid hres; clear hres
      have hbl := b5.trans ((only_set2 w5 (B + 1) (.bool (true && decide (0 < qk))) (.slice ro qk cr)).below (Nat.le_succ B))
      simp only [Bool.true_and] at z0 z1 HRES hbl
      go_wp2
      refine bodyPost_ret (v := .tuple #[.agg #[.bool (decide (0 < qk)), .slice ro qk cr], .int .i64 0]) (by simp [results, Tryz.results46, go_sem, z0, z1]) rfl ⟨_, ro, qk, cr, rfl, HRES.out, ?_⟩
      rw [HBe.out]; exact hbl
    · have hltz : ¬ (t : Int) < (k : Int) := by omega
      have hmod : x.natAbs % 2 ^ k = 0 := by
        rcases Nat.eq_zero_or_pos (x.natAbs % 2 ^ k) with h | h
        · exact h
        · exact absurd (HDV.out.2 (by omega)) hlt
      have HMOD := Lib.hid hmod; clear hmod HDV hlt
      go_wp2_with fail
      refine (signed_any _ _ _ _ _ _ hs23).mono ?_
      rintro e w5 ⟨ro, cr, rfl, hs5, hw5⟩
      have y5 := y3.below hw5
      obtain ⟨b5, l5⟩ := bnext b3 l3 hw5
      clear k0 k1
      have q0 := y5.c0
      have q1 := y5.c1
      have q2 := y5.f 0
      have q3 := y5.f 1
      have z5 := y5.stored (nb && decide (0 < sl)) ro sl cr
      have z0 := z5.c0
      have z1 := z5.c1
      have hres := bn_of (x := x / 2 ^ k) (nb := nb) (hs5.only_box y5 (only_set2 w5 (B + 1) (.bool (nb && decide (0 < sl))) (.slice ro sl cr))) rfl (down_plain hx2.out (fun _ => HMOD.out))
      have HRES := Lib.hid hres; clear hres
      have hbl := b5.trans ((only_set2 w5 (B + 1) (.bool (nb && decide (0 < sl))) (.slice ro sl cr)).below (Nat.le_succ B))
      go_wp2
      refine bodyPost_ret (v := .tuple #[.agg #[.bool (nb && decide (0 < sl)), .slice ro sl cr], .int .i64 0]) (by simp [results, Tryz.results46, go_sem, z0, z1]) rfl ⟨_, ro, sl, cr, rfl, HRES.out, ?_⟩
      rw [HBe.out]; exact hbl
  · have hsg : 0 ≤ sgn3 x 0 := sgn3_nonneg (by omega)
    generalize sgn3 x 0 = s at *
    have HNEG := Lib.hid hneg; clear hneg
    go_wp2_with fail
    refine (signed_any _ _ _ _ _ _ hs23).mono ?_
    rintro e w5 ⟨ro, cr, rfl, hs5, hw5⟩
    have y5 := y3.below hw5
    obtain ⟨b5, l5⟩ := bnext b3 l3 hw5
    clear k0 k1
    have q0 := y5.c0
    have q1 := y5.c1
    have q2 := y5.f 0
    have q3 := y5.f 1
    have z5 := y5.stored (nb && decide (0 < sl)) ro sl cr
    have z0 := z5.c0
    have z1 := z5.c1
    have hres := bn_of (x := x / 2 ^ k) (nb := nb) (hs5.only_box y5 (only_set2 w5 (B + 1) (.bool (nb && decide (0 < sl))) (.slice ro sl cr))) rfl (down_plain hx2.out (fun h => absurd h (by have := HNEG.out; omega)))
    have HRES := Lib.hid hres; clear hres
    have hbl := b5.trans ((only_set2 w5 (B + 1) (.bool (nb && decide (0 < sl))) (.slice ro sl cr)).below (Nat.le_succ B))
    go_wp2
    refine bodyPost_ret (v := .tuple #[.agg #[.bool (nb && decide (0 < sl)), .slice ro sl cr], .int .i64 0]) (by simp [results, Tryz.results46, go_sem, z0, z1]) rfl ⟨_, ro, sl, cr, rfl, HRES.out, ?_⟩
    rw [HBe.out]; exact hbl
end Go.Proofs.YtjohpdobnedilaaGreatDoor
