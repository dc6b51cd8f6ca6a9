/- Rounding of dyads: the multiples below and above, how many bits they have, which one is nearer. No program stands here. -/
import Derived.Test.YtjohpdobnedilaaGreatDoorGm
import Derived.Test.YtjohpdobnedilaaGreatDoorGl
import Derived.Test.YtjohpdobnedilaaGreatDoorGo
import Derived.Test.YtjohpdobnedilaaGreatDoorGn
import Derived.LoopTactic
namespace Go.Proofs.YtjohpdobnedilaaGreatDoor

/-- an integer of at most 2^p has an odd part of at most p bits -/
theorem blen_odd {y : Int} {p : Nat} (hp : 1 ≤ p) (h : y.natAbs ≤ 2 ^ p) (f : Int) : blen (dm (dmk y f)).natAbs ≤ p := by
  unfold dmk
  by_cases h0 : y = 0
  · rw [if_pos h0]; simp [dm, blen]
  · rw [if_neg h0]
    split
    · simp [dm, blen]
    · obtain ⟨m, h1, h2, h3⟩ := odd_part h0
      show blen (y / 2 ^ tzf y.natAbs).natAbs ≤ p
      rw [h3]
      generalize tzf y.natAbs = t at *
      have h4 : y.natAbs = m.natAbs * 2 ^ t := by
        conv => lhs; rw [h1]
        exact natAbs_shift m t
      have ht : 0 < 2 ^ t := Nat.pow_pos (by omega)
      rcases Nat.lt_or_ge m.natAbs (2 ^ p) with h5 | h5
      · exact blen_le_of_lt h5
      · exfalso
        have h6 : 2 ^ p * 1 ≤ m.natAbs * 2 ^ t := Nat.mul_le_mul h5 ht
        have h7 : m.natAbs * 1 ≤ m.natAbs * 2 ^ t := Nat.mul_le_mul_left _ ht
        have h8 : m.natAbs = 2 ^ p := by omega
        have h9 : 2 ^ p % 2 = 0 := by
          obtain ⟨j, rfl⟩ : ∃ j, p = j + 1 := ⟨p - 1, by omega⟩
          rw [Nat.pow_succ]; omega
        omega

/-- the multiples of 2^(k+1) around x, which is none of them -/
structure Around (x : Int) (p k : Nat) (q r : Int) : Prop where
  eq : x = q * 2 ^ (k + 1) + r
  pos : 0 < r
  lt : r < 2 ^ (k + 1)
  lo : -2 ^ p ≤ q
  hi : q + 1 ≤ 2 ^ p

theorem around_of {x : Int} {p k : Nat} (hb : blen x.natAbs = p + (k + 1)) (ht : tzf x.natAbs ≤ k) : Around x p k (x / 2 ^ (k + 1)) (x % 2 ^ (k + 1)) := by
  have hp := two_pos (k + 1)
  have he := Int.mul_ediv_add_emod x (2 ^ (k + 1))
  have h0 := Int.emod_nonneg x (Int.ne_of_gt hp)
  have h1 := Int.emod_lt_of_pos x hp
  have hx0 : x ≠ 0 := by
    rintro rfl
    simp [blen] at hb
  have hlt : (x.natAbs : Int) < 2 ^ p * 2 ^ (k + 1) := by
    have h2 := blen_lt x.natAbs
    rw [hb, Nat.pow_add] at h2
    have h3 : ((x.natAbs : Nat) : Int) < ((2 ^ p * 2 ^ (k + 1) : Nat) : Int) := Int.ofNat_lt.2 h2
    rwa [Int.natCast_mul, Int.natCast_pow, Int.natCast_pow] at h3
  refine ⟨by rw [Int.mul_comm]; exact he.symm, ?_, h1, ?_, ?_⟩
  · rcases Int.lt_or_eq_of_le h0 with h | h
    · exact h
    · exfalso
      obtain ⟨m, e1, e2, _⟩ := odd_part hx0
      have hd : (2 : Int) ^ (k + 1) ∣ x := Int.dvd_of_emod_eq_zero h.symm
      have hd2 : 2 ^ (k + 1) ∣ x.natAbs := by
        have := Int.natAbs_dvd_natAbs.2 hd
        rwa [Int.natAbs_pow] at this
      have h3 := ((tzf_isTz x.natAbs).dvd (by omega) (k + 1)).1 (by omega)
      exact h3 (Nat.mod_eq_zero_of_dvd hd2)
  · have : -(2 ^ p * 2 ^ (k + 1)) ≤ x := by omega
    have h4 : -(2 : Int) ^ p * 2 ^ (k + 1) ≤ x := by rw [Int.neg_mul]; exact this
    exact Int.le_ediv_of_mul_le hp h4
  · have h4 : x < 2 ^ p * 2 ^ (k + 1) := by omega
    have := Int.ediv_lt_of_lt_mul hp h4
    omega

theorem Around.sizes {x : Int} {p k : Nat} {q r : Int} (h : Around x p k q r) : q.natAbs ≤ 2 ^ p ∧ (q + 1).natAbs ≤ 2 ^ p := by
  have h1 := h.lo
  have h2 := h.hi
  have e : ((2 ^ p : Nat) : Int) = (2 : Int) ^ p := by rw [Int.natCast_pow]; rfl
  have h3 := Nat.pow_pos (n := p) (show 0 < 2 by omega)
  generalize (2 : Nat) ^ p = P at *
  rw [← e] at h1 h2
  omega

/-- what rounding gives -/
theorem drd_cases (x e : Int) (p : Nat) (mode : Int) :
    (blen x.natAbs ≤ p + tzf x.natAbs ∧ drd x e p mode = dmk x e) ∨
    ∃ k, blen x.natAbs = p + (k + 1) ∧ tzf x.natAbs ≤ k ∧ ¬ blen x.natAbs ≤ p + tzf x.natAbs ∧ drd x e p mode = dmk (x / 2 ^ (k + 1) + if rup x k mode then 1 else 0) (e + ((k + 1 : Nat) : Int)) := by
  by_cases h : blen x.natAbs ≤ p + tzf x.natAbs
  · exact Or.inl ⟨h, by unfold drd; rw [if_pos h]⟩
  · refine Or.inr ⟨blen x.natAbs - p - 1, by omega, by omega, h, ?_⟩
    unfold drd
    rw [if_neg h]
    have e1 : x / 2 ^ (blen x.natAbs - p - 1) / 2 = x / 2 ^ (blen x.natAbs - p - 1 + 1) := by
      rw [Int.ediv_ediv_of_nonneg (Int.le_of_lt (two_pos _)), Int.pow_succ]
    rw [e1]
    rfl

theorem rup_down (x : Int) (k : Nat) : rup x k 1 = false := rfl
theorem rup_up (x : Int) (k : Nat) : rup x k 2 = true := rfl
theorem rup_in (x : Int) (k : Nat) : rup x k 3 = decide (x < 0) := rfl

/-- to the nearest: below the middle down, above it up -/
theorem rup_near {x : Int} {p k : Nat} {q r : Int} (h : Around x p k q r) : (r < 2 ^ k → rup x k 0 = false) ∧ (2 ^ k < r → rup x k 0 = true) := by
  have hp := two_pos k
  have e := h.eq
  rw [Int.pow_succ] at e
  have hlt := h.lt
  rw [Int.pow_succ] at hlt
  have hpos := h.pos
  have e1 : x / 2 ^ k = 2 * q + r / 2 ^ k := by
    rw [e, show q * (2 ^ k * 2) + r = r + 2 ^ k * (2 * q) by rw [Int.mul_comm (2 ^ k) 2, ← Int.mul_assoc, Int.mul_comm q 2, Int.mul_comm (2 * q), Int.add_comm], Int.add_mul_ediv_left _ _ (Int.ne_of_gt hp), Int.add_comm]
  constructor
  · intro hr
    have e2 : r / 2 ^ k = 0 := Int.ediv_eq_zero_of_lt (by omega) hr
    rw [e2] at e1
    unfold rup
    rw [if_neg (by decide), if_neg (by decide), if_neg (by decide), e1, decide_eq_false (by omega : ¬ (2 * q + 0).natAbs % 2 = 1), Bool.false_and]
  · intro hr
    have e2 : r / 2 ^ k = 1 := by
      have h1 : 1 ≤ r / 2 ^ k := Int.le_ediv_of_mul_le hp (by omega)
      have h2 : r / 2 ^ k < 2 := Int.ediv_lt_of_lt_mul hp (by omega)
      omega
    rw [e2] at e1
    have ht : ¬ tzf x.natAbs = k := by
      intro ht
      have hx0 : x ≠ 0 := by
        rintro rfl
        have h3 : (0 : Int) / 2 ^ k = 0 := Int.zero_ediv _
        omega
      obtain ⟨m, e3, e4, _⟩ := odd_part hx0
      rw [ht] at e3
      have h5 : x / 2 ^ k = m := by rw [e3, Int.mul_ediv_cancel _ (Int.ne_of_gt hp)]
      rw [e1] at h5
      rw [← h5] at e3
      have h6 : q * (2 ^ k * 2) + r = (2 * q + 1) * 2 ^ k := by rw [← e]; exact e3
      have h7 : q * (2 ^ k * 2) = 2 * q * 2 ^ k := by rw [← Int.mul_assoc, Int.mul_right_comm, Int.mul_comm q 2]
      rw [h7, Int.add_mul, Int.one_mul] at h6
      omega
    unfold rup
    rw [if_neg (by decide), if_neg (by decide), if_neg (by decide), e1]
    rw [decide_eq_true (by omega : (2 * q + 1).natAbs % 2 = 1), decide_eq_false ht]
    rfl

/-- a multiple of the unit, from any exponent that is not below it -/
theorem is_mk {y f : Int} {S B : Nat} (hf : -(S : Int) ≤ f) (hS : S ≤ 65536) (hB : B ≤ 65536) (h : (y * 2 ^ (f + S).toNat).natAbs < 2 ^ B) : Is (dmk y f) S (y * 2 ^ (f + S).toNat) := by
  have e : dmk y f = dmk (y * 2 ^ (f + S).toNat) (-(S : Int)) := by
    rw [dmk_shift]
    congr 1
    omega
  rw [e]
  exact Is.of_dmk hS h hB

theorem is_eq {d d' : Dy} {S : Nat} {N M : Int} (h : Is d S N) (h' : Is d' S M) : d = d' ↔ N = M := by
  constructor
  · rintro rfl
    obtain ⟨m, e, h1, _, _, rfl⟩ := h
    obtain ⟨m', e', h1', _, _, rfl⟩ := h'
    rw [h1] at h1'
    cases h1'
    rfl
  · rintro rfl
    exact h.unique h'

theorem is_cmp {d d' : Dy} {S : Nat} {N M : Int} (h : Is d S N) (h' : Is d' S M) (hS : S ≤ 65536) : sgn3 (sc d) (sc d') = sgn3 N M := by
  rw [sc_is h hS, sc_is h' hS]
  exact sgn3_common
end Go.Proofs.YtjohpdobnedilaaGreatDoor

/- The valid dyads form a commutative ring, as plain facts. No program stands here. -/
namespace Go.Proofs.YtjohpdobnedilaaGreatDoor

theorem dadd_comm (d d' : Dy) : dadd d d' = dadd d' d := by
  cases d <;> cases d' <;> simp [dadd, Int.add_comm]
theorem dmul_comm (d d' : Dy) : dmul d d' = dmul d' d := by
  cases d <;> cases d' <;> simp [dmul, Int.add_comm, Int.mul_comm]
theorem dadd_none (d : Dy) : dadd none d = none := by cases d <;> rfl
theorem dadd_none' (d : Dy) : dadd d none = none := by cases d <;> rfl
theorem dmul_none' (d : Dy) : dmul d none = none := by cases d <;> rfl
theorem dsub_none' (d : Dy) : dsub d none = none := dadd_none' d

theorem abs_add_lt {x y : Int} {B : Nat} (hx : x.natAbs < 2 ^ B) (hy : y.natAbs < 2 ^ B) : (x + y).natAbs < 2 ^ (B + 1) := by
  have h3 := Int.natAbs_add_le x y
  rw [Nat.pow_succ]
  omega
theorem abs_mul_lt {x y : Int} {B C : Nat} (hx : x.natAbs < 2 ^ B) (hy : y.natAbs < 2 ^ C) : (x * y).natAbs < 2 ^ (B + C) := by
  rw [Int.natAbs_mul, Nat.pow_add]
  by_cases h0 : y.natAbs = 0
  · rw [h0, Nat.mul_zero]; exact Nat.mul_pos (Nat.pow_pos (by omega)) (Nat.pow_pos (by omega))
  · exact Nat.mul_lt_mul_of_lt_of_le hx (Nat.le_of_lt hy) (Nat.pow_pos (by omega))

theorem pow_bound {x : Int} {a b e : Nat} (hx : x.natAbs < 2 ^ a) (he : e ≤ b) : (x * 2 ^ e).natAbs < 2 ^ (a + b) := by
  rw [natAbs_shift, Nat.pow_add]
  exact Nat.mul_lt_mul_of_lt_of_le hx (Nat.pow_le_pow_right (by omega) he) (Nat.pow_pos (by omega))
theorem lt_up {x B : Nat} (h : x < 2 ^ B) : x < 2 ^ (B + 1) := Nat.lt_trans h (Nat.pow_lt_pow_right (by omega) (by omega))

/-- how many bits the integer of a slim dyad has at most -/
def SB : Nat := 640 + 4000
theorem SB_le : SB ≤ 5000 := by decide

/-- what a slim valid dyad is -/
def Slim (d : Dy) : Prop := blen (dm d).natAbs ≤ 640 ∧ ∃ N, Is d 2000 N ∧ N.natAbs < 2 ^ SB

section
variable {a b c : Dy}
theorem slim_sub (ha : Slim a) : sgn3 (dm (dsub a a)) 0 = 0 := by
  obtain ⟨_, N, h, hb⟩ := ha
  have h1 := h.add h.neg (by omega) (B := 1) (by rw [Int.add_right_neg]; decide) (by omega)
  rw [Int.add_right_neg] at h1
  obtain ⟨m, e, h2, h3, _⟩ := h1.zero
  show sgn3 (dm (dadd a (dneg a))) 0 = 0
  rw [h2]
  have : m = 0 := h3.2 rfl
  rw [show dm (some (m, e)) = m from rfl, this]
  rfl

theorem slim_addAssoc (ha : Slim a) (hb : Slim b) (hc : Slim c) : dadd (dadd a b) c = dadd a (dadd b c) := by
  obtain ⟨_, A, iA, bA⟩ := ha
  obtain ⟨_, B, iB, bB⟩ := hb
  obtain ⟨_, C, iC, bC⟩ := hc
  have ab := abs_add_lt bA bB
  have bc := abs_add_lt bB bC
  have hs := SB_le
  have i1 := (iA.add iB (by omega) ab (by omega)).add iC (by omega) (abs_add_lt ab (lt_up bC)) (by omega)
  have i2 := iA.add (iB.add iC (by omega) bc (by omega)) (by omega) (abs_add_lt (lt_up bA) bc) (by omega)
  rw [Int.add_assoc] at i1
  exact i1.unique i2

theorem slim_mulAssoc (ha : Slim a) (hb : Slim b) (hc : Slim c) : dmul (dmul a b) c = dmul a (dmul b c) := by
  obtain ⟨_, A, iA, bA⟩ := ha
  obtain ⟨_, B, iB, bB⟩ := hb
  obtain ⟨_, C, iC, bC⟩ := hc
  have ab := abs_mul_lt bA bB
  have bc := abs_mul_lt bB bC
  have hs := SB_le
  have i1 := (iA.mul iB (by omega) ab (by omega)).mul iC (by omega) (abs_mul_lt ab bC) (by omega)
  have i2 := iA.mul (iB.mul iC (by omega) bc (by omega)) (by omega) (abs_mul_lt bA bc) (by omega)
  rw [Int.mul_assoc] at i1
  exact i1.unique i2

theorem slim_distrib (ha : Slim a) (hb : Slim b) (hc : Slim c) : dmul (dadd a b) c = dadd (dmul a c) (dmul b c) := by
  obtain ⟨_, A, iA, bA⟩ := ha
  obtain ⟨_, B, iB, bB⟩ := hb
  obtain ⟨_, C, iC, bC⟩ := hc
  have ab := abs_add_lt bA bB
  have ac := abs_mul_lt bA bC
  have bc := abs_mul_lt bB bC
  have hs := SB_le
  have i1 := (iA.add iB (by omega) ab (by omega)).mul iC (by omega) (abs_mul_lt ab bC) (by omega)
  have i2 := (iA.mul iC (by omega) ac (by omega)).add (iB.mul iC (by omega) bc (by omega)) (by omega) (abs_add_lt ac bc) (by omega)
  rw [Int.add_mul] at i1
  exact i1.unique i2

theorem slim_ne (ha : Slim a) : a ≠ none := by
  obtain ⟨_, N, ⟨m, e, h, _⟩, _⟩ := ha
  rw [h]; simp
end

/-- a slim dyad that is valid -/
theorem slim_of {x f : Int} (hb : blen x.natAbs ≤ 640) (hf : -2000 ≤ f ∧ f ≤ 2000 ∨ 131072 < f ∨ f < -131072) (hv : dmk x f ≠ none) : Slim (dmk x f) := by
  by_cases h0 : x = 0
  · subst h0
    rw [dmk_zero]
    exact ⟨by simp [dm, blen], 0, ⟨0, 0, rfl, Or.inl ⟨rfl, rfl⟩, by omega, (Int.zero_mul _).symm⟩, Nat.pow_pos (by omega)⟩
  · have ht := tzf_lt (show x.natAbs ≠ 0 by omega)
    have hf2 : -2000 ≤ f ∧ f ≤ 2000 := by
      rcases hf with h | h
      · exact h
      · exfalso
        apply hv
        unfold dmk
        rw [if_neg h0, if_pos (by omega)]
    have hlt := blen_lt x.natAbs
    obtain ⟨a, ha⟩ : ∃ a : Nat, a = 640 := ⟨_, rfl⟩
    obtain ⟨b, hbb⟩ : ∃ b : Nat, b = 4000 := ⟨_, rfl⟩
    have hab : a + b = SB := by rw [ha, hbb]; rfl
    have hlt2 : x.natAbs < 2 ^ a := Nat.lt_of_lt_of_le hlt (Nat.pow_le_pow_right (by omega) (by omega))
    have hN := pow_bound hlt2 (e := (f + (2000 : Nat)).toNat) (b := b) (by omega)
    rw [hab] at hN
    have hs := SB_le
    refine ⟨?_, _, is_mk (S := 2000) (B := SB) (by omega) (by omega) (by omega) hN, hN⟩
    rw [← ha]
    exact blen_odd (by omega) (Nat.le_of_lt hlt2) f
end Go.Proofs.YtjohpdobnedilaaGreatDoor

/- What the reference's Make, Norm, Valid and Sign of dyads do. -/
namespace Go.Proofs.YtjohpdobnedilaaGreatDoor
open Go.RowKit

set_option maxRecDepth 100000 in
set_option maxHeartbeats 1000000 in
theorem refBad_any (w : World) :
    Calls Tryz.prog 80 #[] w fun e w' => e = .returned (.agg #[.bool true, .bool false, .slice none 0 0, .int .i64 0]) ∧ Ext w w' := by
  go_enter Tryz.func80, Tryz.ntmps80
  go_wp2
  exact bodyPost_ret (v := .agg #[.bool true, .bool false, .slice none 0 0, .int .i64 0]) (by simp [results, Tryz.results80, go_sem]) rfl ⟨rfl, ((Below.refl _ _).alloc (Nat.le_refl _) _)⟩

/-- a shift down by any number of bits -/
theorem refShift_dn0 (nb : Bool) (ao : Option Addr) (n cap : Nat) (x : Int) (e : Nat) (w : World) (h : Bg w nb ao n cap x) (h0 : 0 ≤ x) (he : e ≤ 1048576) :
    Calls Tryz.prog 53 #[.agg #[.bool nb, .slice ao n cap], .int .i64 (-(e : Int))] w fun r w' => ∃ nr ro k cr, r = .returned (.agg #[.bool nr, .slice ro k cr]) ∧ Bn w' nr ro k cr (x / 2 ^ e) ∧ Ext w w' := by
  rcases Nat.eq_zero_or_pos e with rfl | he0
  · have := refShift_up nb ao n cap x 0 w h (by omega)
    rw [show (-((0 : Nat) : Int)) = ((0 : Nat) : Int) from rfl]
    exact this.mono fun r w' ⟨nr, ro, k, cr, hr, hb, _, hw⟩ => ⟨nr, ro, k, cr, hr, by simpa using hb, hw⟩
  · exact (refShift_down nb ao n cap x e w h h0 he0 he).mono fun r w' ⟨nr, ro, k, cr, hr, hb, _, hw⟩ => ⟨nr, ro, k, cr, hr, hb, hw⟩

set_option maxRecDepth 100000 in
set_option maxHeartbeats 2000000 in
theorem refDown_any (nb : Bool) (ao : Option Addr) (n cap : Nat) (x : Int) (e : Nat) (w : World) (h : Bg w nb ao n cap x) (h0 : 0 ≤ x) (he : e ≤ 1048576) :
    Calls Tryz.prog 151 #[.agg #[.bool nb, .slice ao n cap], .int .i64 (e : Int)] w fun r w' => ∃ nr ro k cr, r = .returned (.agg #[.bool nr, .slice ro k cr]) ∧ Bn w' nr ro k cr (x / 2 ^ e) ∧ Ext w w' := by
  obtain ⟨ei, hei⟩ : ∃ ei : Int, (e : Int) = ei := ⟨_, rfl⟩
  have hei0 : 0 ≤ ei := by omega
  have hei1 : ei ≤ 1048576 := by omega
  rw [hei]
  have HEI := Lib.hid hei; clear hei
  go_enter Tryz.func151, Tryz.ntmps151
  go_wp2_with fail
  obtain ⟨W, hW, hB, hbx, hrx, hz⟩ := boxes1 w nb ao n cap
  rw [← hW]
  clear hW
  have h1 := h.below hB
  generalize hBe : w.heap.size = B at *
  have HBe := Lib.hid hBe; clear hBe
  go_loopw [1] (fun i wr => i = .int .i64 ei ∧ wr = W) (fun _ _ => 0)
  case atStart => exact ⟨rfl, rfl⟩
  case round =>
    obtain ⟨rfl, rfl⟩ := hrel
    have k0 := hbx.c0
    have k1 := hbx.c1
    have hcall := refShift_dn0 nb ao n cap x e wr h1 h0 (by omega)
    rw [HEI.out] at hcall
    have HC := Lib.hid hcall; clear hcall
    go_wp2_with fail
    refine HC.out.mono ?_
    rintro r w1 ⟨nr, ro, k, rc, rfl, hs1, hw1⟩
    have b1 := hrx.below hw1
    obtain ⟨h1, z1⟩ := bnext hB (by omega) hw1
    clear k0 k1 HC
    have q0 := b1.c0
    have q1 := b1.c1
    have q2 := b1.f 0
    have q3 := b1.f 1
    have hst := b1.stored nr ro k rc
    have u0 := hst.c0
    have u1 := hst.c1
    have hres : Bn ((w1.setCell ⟨B + 1, 0, none⟩ (.bool nr)).setCell ⟨B + 1, 1, none⟩ (.slice ro k rc)) nr ro k rc (x / 2 ^ e) := ⟨hs1.neg, hs1.sl.only_box b1 (only_set2 _ _ _ _)⟩
    have hbl := h1.trans ((only_set2 w1 (B + 1) (.bool nr) (.slice ro k rc)).below (Nat.le_succ B))
    have HRES := Lib.hid hres; clear hres
    go_wp2
    refine bodyPost_ret (v := .agg #[.bool nr, .slice ro k rc]) (by simp [results, Tryz.results151, go_sem, u0, u1]) rfl ⟨_, ro, k, rc, rfl, HRES.out, ?_⟩
    show Below _ _ _
    rw [HBe.out]; exact hbl

/-- the odd part with its sign -/
theorem odd_bn {w : World} {nb mr : Bool} {mo : Option Addr} {j mc : Nat} {x : Int} (h : Bn w mr mo j mc ((x.natAbs : Int) / 2 ^ tzf x.natAbs)) (h0 : x ≠ 0) (hn : nb = decide (x < 0)) : Bn w nb mo j mc (x / 2 ^ tzf x.natAbs) := by
  obtain ⟨m, h1, h2, h3⟩ := odd_part h0
  rw [h3]
  have hp := two_pos (tzf x.natAbs)
  have e : (x.natAbs : Int) / 2 ^ tzf x.natAbs = m.natAbs := by
    have e2 : (x.natAbs : Int) = (m.natAbs : Int) * 2 ^ tzf x.natAbs := by
      conv => lhs; rw [h1]
      rw [natAbs_shift]; push_cast; rfl
    rw [e2, Int.mul_ediv_cancel _ (Int.ne_of_gt hp)]
  rw [e] at h
  refine ⟨?_, by have := h.sl; rwa [Int.natAbs_natCast] at this⟩
  rw [hn, decide_eq_decide]
  constructor
  · intro hx
    rcases Int.lt_or_le m 0 with hm | hm
    · exact hm
    · have := Int.mul_nonneg hm (Int.le_of_lt hp); omega
  · intro hm
    have := Int.mul_neg_of_neg_of_pos hm hp; omega

theorem dmk_far {x f : Int} (h0 : x ≠ 0) (hf : 65536 < f) : dmk x f = none := by
  unfold dmk
  rw [if_neg h0, if_pos (by omega)]

set_option maxRecDepth 100000 in
set_option maxHeartbeats 4000000 in
theorem refMake_any (nb : Bool) (ao : Option Addr) (n ca : Nat) (x f : Int) (w : World) (h : Bg w nb ao n ca x) (hbl : blen x.natAbs ≤ 1000000) (hf0 : -9223372036854775808 ≤ f) (hf1 : f ≤ 9223372036854775807) (hT : Table w) :
    Calls Tryz.prog 81 #[.agg #[.bool nb, .slice ao n ca], .int .i64 f] w fun e w' => ∃ v, e = .returned v ∧ Dn w' v (dmk x f) ∧ Ext w w' := by
  have hsm := h.small
  have hnb : x ≠ 0 → nb = decide (x < 0) := by
    intro h0
    obtain ⟨⟨zs, hs, hx⟩, _⟩ := h
    have hn := num_nonneg hs.wf
    unfold sgd at hx
    cases nb <;> simp at hx <;> simp <;> omega
  have HNB := Lib.hid hnb; clear hnb
  go_enter Tryz.func81, Tryz.ntmps81
  go_upto_region 1 with fail
  obtain ⟨W, hW, hB, hbx, hrx, hz⟩ := boxes_bd w nb ao n ca
  rw [← hW]
  clear hW
  have h := h.below hB
  have HT := Lib.hid (hT.below hB)
  generalize hBe : w.heap.size = B at *
  have HBe := Lib.hid hBe; clear hBe hT
  have k0 := hbx.c0
  have k1 := hbx.c1
  go_wp2_with fail
  refine (refNorm_any nb ao n ca x W h).mono ?_
  rintro e w1 ⟨nr, ro, k, rc, rfl, hr, hk, hw1⟩
  have HT := Lib.hid (HT.out.below hw1)
  have b1 := hbx.below hw1
  have c1 := hrx.below hw1
  obtain ⟨hB1, hB1'⟩ := bnext hB (by omega) hw1
  have hw1s := hw1.size
  clear k0 k1 hbx hrx h
  go_upto_region 2 with fail
  obtain ⟨V, hV, hv, e1, hz2⟩ := box_new w1 nr ro k rc
  rw [← hV]
  clear hV
  have HT := Lib.hid (HT.out.below hv)
  have b2 := b1.below hv
  have c2 := c1.below hv
  have hr := hr.below hv
  obtain ⟨hB2, hB2'⟩ := bnext hB1 (by omega) hv
  have hD : B + 2 ≤ w1.heap.size := by omega
  clear hw1 hv b1 c1 hw1s hz
  generalize w1.heap.size = D at *
  have k0 := e1.c0
  have k1 := e1.c1
  have hz0 := len_zero_iff hr.sl.len
  have HBL := Lib.hid hbl
  by_cases hk0 : k = 0
  · have hx0 : x = 0 := by have := hz0.1 hk0; omega
    have HX := Lib.hid hx0; clear hx0 hz0 hbl
    subst hk0
    have q0 := c2.c0
    have q1 := c2.c1
    have q2 := c2.c2
    have q3 := c2.c3
    have f0 := c2.f 0
    have f1 := c2.f 1
    have f2 := c2.f 2
    have f3 := c2.f 3
    have hres := dn_stored c2 (dn_zero _) w hB2 (Nat.le_succ B)
    have z3 := c2.stored false false none 0 0 0
    have z0 := z3.c0
    have z1 := z3.c1
    have z2 := z3.c2
    have z4 := z3.c3
    have HRES := Lib.hid hres; clear hres z3
    go_wp2
    refine bodyPost_ret (v := .agg #[.bool false, .bool false, .slice none 0 0, .int .i64 0]) (by simp [results, Tryz.results81, go_sem, z0, z1, z2, z4]) rfl ⟨_, rfl, ?_, ?_⟩
    · rw [HX.out, dmk_zero]; exact HRES.out.1
    · show Below _ _ _; rw [HBe.out]; exact HRES.out.2
  · have hx0 : x ≠ 0 := by intro e; exact hk0 (hz0.2 (by omega))
    have hkb : ((k : Int) == 0) = false := beq_eq_false_iff_ne.2 (by omega)
    have HX := Lib.hid hx0
    clear hz0
    by_cases hf : 65536 < f
    · have hd : dmk x f = none := dmk_far hx0 hf
      have HD := Lib.hid hd; clear hd hx0 hk0 hbl
      go_wp2_with fail
      refine (refBad_any _).mono ?_
      rintro e w3 ⟨rfl, hw3⟩
      have c3 := c2.below hw3
      obtain ⟨hB3, hB3'⟩ := bnext hB2 (by omega) hw3
      clear k0 k1
      have q0 := c3.c0
      have q1 := c3.c1
      have q2 := c3.c2
      have q3 := c3.c3
      have f0 := c3.f 0
      have f1 := c3.f 1
      have f2 := c3.f 2
      have f3 := c3.f 3
      have hres := dn_stored c3 (dn_bad _) w hB3 (Nat.le_succ B)
      have z3 := c3.stored true false none 0 0 0
      have z0 := z3.c0
      have z1 := z3.c1
      have z2 := z3.c2
      have z4 := z3.c3
      have HRES := Lib.hid hres; clear hres z3
      go_wp2
      refine bodyPost_ret (v := .agg #[.bool true, .bool false, .slice none 0 0, .int .i64 0]) (by simp [results, Tryz.results81, go_sem, z0, z1, z2, z4]) rfl ⟨_, rfl, ?_, ?_⟩
      · rw [HD.out]; exact HRES.out.1
      · show Below _ _ _; rw [HBe.out]; exact HRES.out.2
    · obtain ⟨t, ht⟩ : ∃ t, tzf x.natAbs = t := ⟨_, rfl⟩
      obtain ⟨bl, hb⟩ : ∃ bl, blen x.natAbs = bl := ⟨_, rfl⟩
      have htl := tzf_lt (show x.natAbs ≠ 0 by omega)
      have hd0 : dmk x f = if f < -65536 - (t : Int) ∨ 65536 - (bl : Int) < f then none else some (x / 2 ^ t, f + t) := by
        unfold dmk; rw [if_neg hx0, ht, hb]
      have hnd := dmk_nd x f
      rw [ht, hb] at htl
      have hbl2 : bl ≤ 1000000 := by omega
      have HD0 := Lib.hid hd0
      have HND := Lib.hid hnd
      have HB := Lib.hid hb
      have HTZ := Lib.hid ht
      clear hd0 hnd hx0 hk0 hbl hb ht
      have hrg := hr.bg (by omega)
      have hcall := refTz_any _ _ _ _ _ _ hrg HT.out
      rw [HTZ.out] at hcall
      have HC := Lib.hid hcall; clear hcall
      go_wp2_with fail
      refine HC.out.mono ?_
      rintro e w3 ⟨rfl, hw3⟩
      have b3 := b2.below hw3
      have c3 := c2.below hw3
      have e3 := e1.below hw3
      have hr3 := hr.below hw3
      obtain ⟨hB3, hB3'⟩ := bnext hB2 (by omega) hw3
      have hs3 := hw3.size
      have hs3' : D + 1 ≤ w3.heap.size := by omega
      clear k0 k1 HC hw3 hs3 b2 c2 e1 hr hrg
      have k0 := e3.c0
      have k1 := e3.c1
      go_wp2_with fail
      refine (refAbs_any _ _ _ _ _ _ (hr3.bg (by omega))).mono ?_
      rintro e w4 ⟨ar, aor, ak, ac, rfl, ha4, hak, hw4⟩
      have b4 := b3.below hw4
      have c4 := c3.below hw4
      have e4 := e3.below hw4
      obtain ⟨hB4, hB4'⟩ := bnext hB3 (by omega) hw4
      have hs4 := hw4.size
      clear k0 k1 hw4 b3 c3 e3
      have k0 := e4.c0
      have k1 := e4.c1
      have k2 := e4.f 0
      have k3 := e4.f 1
      have ho := only_set2 w4 D (.bool ar) (.slice aor ak ac)
      have e5 := e4.stored ar aor ak ac
      have b5 := b4.only ho (by omega)
      have c5 := c4.only ho (by omega)
      have ha5 : Bn _ ar aor ak ac (x.natAbs : Int) := ⟨ha4.neg, ha4.sl.only_box e4 ho⟩
      have hB5 := hB4.trans (ho.below (B := B) (by omega))
      have hs5 := ho.size
      go_upto_region 9 with fail
      generalize (w4.setCell ⟨D, 0, none⟩ (.bool ar)).setCell ⟨D, 1, none⟩ (.slice aor ak ac) = w5 at *
      clear k0 k1 k2 k3 ho e4 b4 c4 ha4
      have k0 := e5.c0
      have k1 := e5.c1
      have k2 := e5.f 0
      have k3 := e5.f 1
      have hs5' : D + 1 ≤ w5.heap.size := by omega
      clear hs5 hs4
      go_wp2_with fail
      refine (refDown_any _ _ _ _ _ _ _ (ha5.bg (by omega)) (by omega) (by omega)).mono ?_
      rintro e w6 ⟨mr, mo, j, mc, rfl, hm6, hw6⟩
      rw [← HTZ.out] at hm6
      have b6 := b5.below hw6
      have c6 := c5.below hw6
      have e6 := e5.below hw6
      obtain ⟨hB6, hB6'⟩ := bnext hB5 (by omega) hw6
      have hs6 := hw6.size
      clear k0 k1 k2 k3 hw6 b5 c5 e5 ha5
      have k0 := e6.c0
      have k1 := e6.c1
      have k2 := e6.f 0
      have k3 := e6.f 1
      have ho := only_set2 w6 D (.bool mr) (.slice mo j mc)
      have e7 := e6.stored mr mo j mc
      have b7 := b6.only ho (by omega)
      have c7 := c6.only ho (by omega)
      have hm7 : Bn _ mr mo j mc ((x.natAbs : Int) / 2 ^ tzf x.natAbs) := ⟨hm6.neg, hm6.sl.only_box e6 ho⟩
      have hB7 := hB6.trans (ho.below (B := B) (by omega))
      have hs7 := ho.size
      go_upto_region 10 with fail
      generalize (w6.setCell ⟨D, 0, none⟩ (.bool mr)).setCell ⟨D, 1, none⟩ (.slice mo j mc) = w7 at *
      clear k0 k1 k2 k3 ho e6 b6 c6 hm6
      have k0 := e7.c0
      have k1 := e7.c1
      have hs7' : D + 1 ≤ w7.heap.size := by omega
      clear hs7 hs6
      have hodd := odd_bn hm7 HX.out (HNB.out HX.out)
      rw [HTZ.out] at hodd hm7
      have hbm : blen ((x.natAbs : Int) / 2 ^ t).natAbs = bl - t := by
        obtain ⟨m, h1, h2, h3⟩ := odd_part HX.out
        rw [HTZ.out] at h1
        have hp := two_pos t
        have e2 : (x.natAbs : Int) = (m.natAbs : Int) * 2 ^ t := by
          conv => lhs; rw [h1]
          rw [natAbs_shift]; push_cast; rfl
        rw [e2, Int.mul_ediv_cancel _ (Int.ne_of_gt hp), Int.natAbs_natCast]
        have h5 := congrArg Int.natAbs h1
        rw [natAbs_shift] at h5
        have h6 := blen_mul (a := m.natAbs) (by omega) t
        rw [← h5, HB.out] at h6
        omega
      have HBM := Lib.hid hbm; clear hbm
      have HODD := Lib.hid hodd
      have hjs : j ≤ 100000 := by
        have := limbs_of_blen (a := ((x.natAbs : Int) / 2 ^ t).natAbs) (k := 100000) (by rw [HBM.out]; omega)
        rwa [hm7.sl.len] at this
      by_cases hlo : f < -65536 - (t : Int)
      · have hd : dmk x f = none := by rw [HD0.out, if_pos (Or.inl hlo)]
        have HD := Lib.hid hd; clear hd
        go_wp2_with fail
        refine (refBad_any _).mono ?_
        rintro e w8 ⟨rfl, hw8⟩
        have c8 := c7.below hw8
        obtain ⟨hB8, hB8'⟩ := bnext hB7 (by omega) hw8
        clear k0 k1
        have q0 := c8.c0
        have q1 := c8.c1
        have q2 := c8.c2
        have q3 := c8.c3
        have f0 := c8.f 0
        have f1 := c8.f 1
        have f2 := c8.f 2
        have f3 := c8.f 3
        have hres := dn_stored c8 (dn_bad _) w hB8 (Nat.le_succ B)
        have z3 := c8.stored true false none 0 0 0
        have z0 := z3.c0
        have z1 := z3.c1
        have z2 := z3.c2
        have z4 := z3.c3
        have HRES := Lib.hid hres; clear hres z3
        go_wp2
        refine bodyPost_ret (v := .agg #[.bool true, .bool false, .slice none 0 0, .int .i64 0]) (by simp [results, Tryz.results81, go_sem, z0, z1, z2, z4]) rfl ⟨_, rfl, ?_, ?_⟩
        · rw [HD.out]; exact HRES.out.1
        · show Below _ _ _; rw [HBe.out]; exact HRES.out.2
      · have hcall := refBitLen_any _ _ _ _ _ _ (hm7.bg (by omega))
        rw [HBM.out] at hcall
        have HC := Lib.hid hcall; clear hcall
        have hbt : ((bl - t : Nat) : Int) = (bl : Int) - t := by omega
        have HBT := Lib.hid hbt; clear hbt
        go_wp2_with fail
        refine HC.out.mono ?_
        rintro e w8 ⟨rfl, hw8⟩
        rw [HBT.out]
        have b8 := b7.below hw8
        have c8 := c7.below hw8
        have e8 := e7.below hw8
        have hm8 := hodd.below hw8
        obtain ⟨hB8, hB8'⟩ := bnext hB7 (by omega) hw8
        have hs8 := hw8.size
        clear k0 k1 HC hw8 b7 c7 e7 hm7 hodd HODD
        by_cases hhi : 65536 - (bl : Int) < f
        · have hd : dmk x f = none := by rw [HD0.out, if_pos (Or.inr hhi)]
          have HD := Lib.hid hd; clear hd
          have hcmp : (f + (t : Int) + ((bl : Int) - t) > 65536) := by omega
          go_wp2_with fail
          refine (refBad_any _).mono ?_
          rintro e w9 ⟨rfl, hw9⟩
          have c9 := c8.below hw9
          obtain ⟨hB9, hB9'⟩ := bnext hB8 (by omega) hw9
          have q0 := c9.c0
          have q1 := c9.c1
          have q2 := c9.c2
          have q3 := c9.c3
          have f0 := c9.f 0
          have f1 := c9.f 1
          have f2 := c9.f 2
          have f3 := c9.f 3
          have hres := dn_stored c9 (dn_bad _) w hB9 (Nat.le_succ B)
          have z3 := c9.stored true false none 0 0 0
          have z0 := z3.c0
          have z1 := z3.c1
          have z2 := z3.c2
          have z4 := z3.c3
          have HRES := Lib.hid hres; clear hres z3
          go_wp2
          refine bodyPost_ret (v := .agg #[.bool true, .bool false, .slice none 0 0, .int .i64 0]) (by simp [results, Tryz.results81, go_sem, z0, z1, z2, z4]) rfl ⟨_, rfl, ?_, ?_⟩
          · rw [HD.out]; exact HRES.out.1
          · show Below _ _ _; rw [HBe.out]; exact HRES.out.2
        · have hd : dmk x f = some (x / 2 ^ t, f + t) := by rw [HD0.out, if_neg (by omega)]
          have hcmp : ¬ (f + (t : Int) + ((bl : Int) - t) > 65536) := by omega
          have hnd2 := HND.out
          rw [hd] at hnd2
          have HD := Lib.hid hd; clear hd
          have k0 := e8.c0
          have k1 := e8.c1
          have k2 := e8.f 0
          have l0 := b8.c0
          have l1 := b8.c1
          have ho := only_set1 w8 D 0 (.bool nb)
          have e9 := e8.stored0 nb
          have c9 := c8.only ho (by omega)
          have hm9 : Bn _ nb mo j mc (x / 2 ^ t) := ⟨hm8.neg, hm8.sl.only_box e8 ho⟩
          have hB9 := hB8.trans (ho.below (B := B) (by omega))
          have hdn : Dn _ (.agg #[.bool false, .bool nb, .slice mo j mc, .int .i64 (f + t)]) (some (x / 2 ^ t, f + t)) := dn_lit hm9 hnd2
          have HDN := Lib.hid hdn
          clear hdn hnd2 hm9
          go_upto_region 13 with fail
          generalize w8.setCell ⟨D, 0, none⟩ (.bool nb) = w9 at *
          clear k0 k1 k2 l0 l1 ho e8 b8 c8 hm8
          have k0 := e9.c0
          have k1 := e9.c1
          have q0 := c9.c0
          have q1 := c9.c1
          have q2 := c9.c2
          have q3 := c9.c3
          have f0 := c9.f 0
          have f1 := c9.f 1
          have f2 := c9.f 2
          have f3 := c9.f 3
          have hres := dn_stored c9 HDN.out w hB9 (Nat.le_succ B)
          have z3 := c9.stored false nb mo j mc (f + t)
          have z0 := z3.c0
          have z1 := z3.c1
          have z2 := z3.c2
          have z4 := z3.c3
          have HRES := Lib.hid hres; clear hres z3
          go_wp2
          refine bodyPost_ret (v := .agg #[.bool false, .bool nb, .slice mo j mc, .int .i64 (f + t)]) (by simp [results, Tryz.results81, go_sem, z0, z1, z2, z4]) rfl ⟨_, rfl, ?_, ?_⟩
          · rw [HD.out]; exact HRES.out.1
          · show Below _ _ _; rw [HBe.out]; exact HRES.out.2
/-- a dyad that reads as d, of at most a million bits -/
def Dl (w : World) (v : Value) (d : Dy) : Prop :=
  ∃ bb nb ao n ca x f, v = .agg #[.bool bb, .bool nb, .slice ao n ca, .int .i64 f] ∧ Bg w nb ao n ca x ∧ blen x.natAbs ≤ 1000000 ∧ -9223372036854775808 ≤ f ∧ f ≤ 9223372036854775807 ∧ d = if bb then none else dmk x f

theorem Dl.dg {w : World} {v : Value} {d : Dy} (h : Dl w v d) : Dg w v d := by
  obtain ⟨bb, nb, ao, n, ca, x, f, h1, h2, _, h3⟩ := h
  exact ⟨bb, nb, ao, n, ca, x, f, h1, h2, h3⟩
theorem Dl.ext {w w' : World} {v : Value} {d : Dy} (h : Dl w v d) (he : Ext w w') : Dl w' v d := by
  obtain ⟨bb, nb, ao, n, ca, x, f, h1, h2, h3⟩ := h
  exact ⟨bb, nb, ao, n, ca, x, f, h1, h2.below he, h3⟩
theorem Dn.dl {w : World} {v : Value} {d : Dy} (h : Dn w v d) : Dl w v d := by
  obtain ⟨h0, nb, ao, n, ca, h1, h2⟩ := h
  obtain ⟨hb, he0, he1⟩ := nd_blen h0
  have hl : n ≤ 4096 := by
    rw [← h2.sl.len]
    exact limbs_of_blen (by omega)
  refine ⟨_, nb, ao, n, ca, _, _, h1, h2.bg (by omega), by omega, by omega, by omega, ?_⟩
  cases d with
  | none => rfl
  | some p => exact (dmk_norm h0).symm

set_option maxRecDepth 100000 in
set_option maxHeartbeats 2000000 in
theorem refDNorm_any (v : Value) (d : Dy) (w : World) (h : Dl w v d) (hT : Table w) :
    Calls Tryz.prog 101 #[v] w fun e w' => ∃ r, e = .returned r ∧ Dn w' r d ∧ Ext w w' := by
  obtain ⟨bb, nb, ao, n, ca, x, f, rfl, h, hbl, hf0, hf1, hd⟩ := h
  have HD := Lib.hid hd; clear hd
  go_enter Tryz.func101, Tryz.ntmps101
  go_upto_region 1 with fail
  obtain ⟨W, hW, hB, hbx, hrx, hz⟩ := boxes_dd w bb nb ao n ca f
  rw [← hW]
  clear hW
  have h := h.below hB
  have HT := Lib.hid (hT.below hB)
  generalize hBe : w.heap.size = B at *
  have HBe := Lib.hid hBe; clear hBe hT
  have k0 := hbx.c0
  have k1 := hbx.c1
  have k2 := hbx.c2
  have k3 := hbx.c3
  cases bb with
  | true =>
    go_wp2_with fail
    refine (refBad_any W).mono ?_
    rintro e w1 ⟨rfl, hw1⟩
    have c1 := hrx.below hw1
    obtain ⟨hB1, hB1'⟩ := bnext hB (by omega) hw1
    clear k0 k1 k2 k3
    have q0 := c1.c0
    have q1 := c1.c1
    have q2 := c1.c2
    have q3 := c1.c3
    have f0 := c1.f 0
    have f1 := c1.f 1
    have f2 := c1.f 2
    have f3 := c1.f 3
    have hres := dn_stored c1 (dn_bad _) w hB1 (Nat.le_succ B)
    have z3 := c1.stored true false none 0 0 0
    have z0 := z3.c0
    have z1 := z3.c1
    have z2 := z3.c2
    have z4 := z3.c3
    have HRES := Lib.hid hres; clear hres z3
    go_wp2
    refine bodyPost_ret (v := .agg #[.bool true, .bool false, .slice none 0 0, .int .i64 0]) (by simp [results, Tryz.results101, go_sem, z0, z1, z2, z4]) rfl ⟨_, rfl, ?_, ?_⟩
    · rw [HD.out]; exact HRES.out.1
    · show Below _ _ _; rw [HBe.out]; exact HRES.out.2
  | false =>
    go_wp2_with fail
    refine (refMake_any _ _ _ _ _ _ _ h hbl hf0 hf1 HT.out).mono ?_
    rintro e w1 ⟨r, rfl, hr, hw1⟩
    have c1 := hrx.below hw1
    obtain ⟨hB1, hB1'⟩ := bnext hB (by omega) hw1
    obtain ⟨mbb, mb, mo, m, cb, me, rfl⟩ := hr.parts
    clear k0 k1 k2 k3 h hbl
    have q0 := c1.c0
    have q1 := c1.c1
    have q2 := c1.c2
    have q3 := c1.c3
    have f0 := c1.f 0
    have f1 := c1.f 1
    have f2 := c1.f 2
    have f3 := c1.f 3
    have hres := dn_stored c1 hr w hB1 (Nat.le_succ B)
    have z3 := c1.stored mbb mb mo m cb me
    have z0 := z3.c0
    have z1 := z3.c1
    have z2 := z3.c2
    have z4 := z3.c3
    have HRES := Lib.hid hres; clear hres z3
    go_wp2
    refine bodyPost_ret (v := .agg #[.bool mbb, .bool mb, .slice mo m cb, .int .i64 me]) (by simp [results, Tryz.results101, go_sem, z0, z1, z2, z4]) rfl ⟨_, rfl, ?_, ?_⟩
    · rw [HD.out]; exact HRES.out.1
    · show Below _ _ _; rw [HBe.out]; exact HRES.out.2

set_option maxRecDepth 100000 in
set_option maxHeartbeats 2000000 in
theorem refDSign_any (v : Value) (d : Dy) (w : World) (h : Dl w v d) (hT : Table w) :
    Calls Tryz.prog 140 #[v] w fun e w' => e = .returned (.int .i64 (sgn3 (dm d) 0)) ∧ Ext w w' := by
  obtain ⟨bb, nb, ao, n, ca, x, f, rfl, h'⟩ := id h
  go_enter Tryz.func140, Tryz.ntmps140
  go_upto_region 1 with fail
  obtain ⟨W, hW, hB, hbx, hz⟩ := dbox_new w bb nb ao n ca f
  rw [← hW]
  clear hW
  have h : Dl W (.agg #[.bool bb, .bool nb, .slice ao n ca, .int .i64 f]) d := Dl.ext ⟨bb, nb, ao, n, ca, x, f, rfl, h'⟩ hB
  have HT := Lib.hid (hT.below hB)
  generalize hBe : w.heap.size = B at *
  have HBe := Lib.hid hBe; clear hBe hT h'
  have k0 := hbx.c0
  have k1 := hbx.c1
  have k2 := hbx.c2
  have k3 := hbx.c3
  go_wp2_with fail
  refine (refDNorm_any _ _ _ h HT.out).mono ?_
  rintro e w1 ⟨r, rfl, hr, hw1⟩
  obtain ⟨mbb, mb, mo, m, cb, me, rfl⟩ := hr.parts
  have b1 := hbx.below hw1
  obtain ⟨hB1, hB1'⟩ := bnext hB (by omega) hw1
  have ho := only_set4 w1 B (.bool mbb) (.bool mb) (.slice mo m cb) (.int .i64 me)
  have b2 := b1.stored mbb mb mo m cb me
  have hr2 := hr.only_dbox b1 ho
  have hB2 := hB1.trans (ho.below (Nat.le_refl B))
  have hz2 : B ≤ (((((w1.setCell ⟨B, 0, none⟩ (.bool mbb)).setCell ⟨B, 1, none⟩ (.bool mb)).setCell ⟨B, 2, none⟩ (.slice mo m cb)).setCell ⟨B, 3, none⟩ (.int .i64 me))).heap.size := by rw [ho.size]; exact hB1'
  clear k0 k1 k2 k3
  have k0 := b1.c0
  have k1 := b1.c1
  have k2 := b1.c2
  have k3 := b1.c3
  have f0 := b1.f 0
  have f1 := b1.f 1
  have f2 := b1.f 2
  have f3 := b1.f 3
  go_upto_region 2 with fail
  generalize (((w1.setCell ⟨B, 0, none⟩ (.bool mbb)).setCell ⟨B, 1, none⟩ (.bool mb)).setCell ⟨B, 2, none⟩ (.slice mo m cb)).setCell ⟨B, 3, none⟩ (.int .i64 me) = w2 at *
  clear k0 k1 k2 k3 f0 f1 f2 f3 ho b1 hr hw1
  obtain ⟨hbb, _, hbn⟩ := hr2.get
  have HBB := Lib.hid hbb; clear hbb
  have hnd := hr2.1
  have hms : m ≤ 4096 := by
    rw [← hbn.sl.len]
    exact limbs_of_blen (by have := nd_blen hnd; omega)
  have k0 := b2.c0
  have k1 := b2.c1
  have k2 := b2.c2
  clear hr2 hnd
  cases mbb with
  | true =>
    have hd : d = none := by
      have := HBB.out
      cases d with
      | none => rfl
      | some p => simp at this
    have HD := Lib.hid hd; clear hd
    go_wp2
    go_ret
    exact ⟨by rw [HD.out]; rfl, by show Below _ _ _; rw [HBe.out]; exact hB2⟩
  | false =>
    go_wp2_with fail
    refine (refSign_any _ _ _ _ _ _ (hbn.bg (by omega))).mono ?_
    rintro e w3 ⟨rfl, hw3⟩
    obtain ⟨hB3, hB3'⟩ := bnext hB2 hz2 hw3
    go_wp2
    go_ret
    exact ⟨rfl, by show Below _ _ _; rw [HBe.out]; exact hB3⟩
end Go.Proofs.YtjohpdobnedilaaGreatDoor
