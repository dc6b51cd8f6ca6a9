import Derived.Test.YtecaaklbhhjcjaaGreatDoorIRelU33
import Derived.Test.YtecaaklbhhjcjaaGreatDoorIRelU29
import Derived.Test.YtecaaklbhhjcjaaGreatDoorIRelU32
import Derived.Test.YtecaaklbhhjcjaaGreatDoorIRelU13
import Derived.Test.YtecaaklbhhjcjaaGreatDoorIRelU15
import Derived.Test.YtecaaklbhhjcjaaGreatDoorIRelU18
import Derived.Test.YtecaaklbhhjcjaaGreatDoorIRelU19
import Derived.Deep.CutRange
import Derived.Deep.CutBlock
import Derived.Test.YtecaaklbhhjcjaaGreatDoorIRelU8
import Derived.Test.YtecaaklbhhjcjaaGreatDoorIRelU9
import Derived.Test.YtecaaklbhhjcjaaGreatDoorIRelU21
import Derived.Test.YtecaaklbhhjcjaaGreatDoorIRelU22
import Derived.Deep.RegionHeld3
import Derived.Test.YtecaaklbhhjcjaaGreatDoorIRelU1
namespace Go.Proofs.YtecaaklbhhjcjaaGreatDoor
open Go Go.RowKit

/-- turned about, an interval is valid -/
theorem valid_neg {a b : Nat} (ha : a < 18446744073709551616) (hb : b < 18446744073709551616) (h : validF a b = true) : validF (fnegF b) (fnegF a) = true := by
  rw [valid_iff ha hb] at h
  obtain ⟨n1, n2, h1, h2, h3⟩ := h
  rw [valid_iff fnegF_lt fnegF_lt]
  obtain ⟨p1, p2, -⟩ := neg_rank ha n1
  obtain ⟨q1, q2, -⟩ := neg_rank hb n2
  exact ⟨q1, p1, by omega, by omega, by omega⟩
theorem valid_plain {a b : Nat} (ha : a < 18446744073709551616) (hb : b < 18446744073709551616) (h : validF a b = true) : validF (plainF a) (plainF b) = true := by
  rw [valid_iff ha hb] at h
  rw [valid_iff (plainF_lt ha) (plainF_lt hb), (plain_facts a).1, (plain_facts a).2, (plain_facts b).1, (plain_facts b).2]
  exact h

end Go.Proofs.YtecaaklbhhjcjaaGreatDoor

namespace Go.Proofs.YtecaaklbhhjcjaaGreatDoor

/-- two bounds that make a valid interval -/
structure Good (p q : Nat) : Prop where
  l1 : p < 18446744073709551616
  l2 : q < 18446744073709551616
  n1 : nanB p = false
  n2 : nanB q = false
  le : frank p ≤ frank q
  lo : frank p < 9218868437227405312
  hi : -9218868437227405312 < frank q
theorem Good.of {a b : Nat} (ha : a < 18446744073709551616) (hb : b < 18446744073709551616) (h : validF a b = true) : Good a b := by
  obtain ⟨v1, v2, v3, v4, v5⟩ := (valid_iff ha hb).1 h
  exact ⟨ha, hb, v1, v2, v3, v4, v5⟩
theorem Good.valid {a b : Nat} (h : Good a b) : validF a b = true := (valid_iff h.l1 h.l2).2 ⟨h.n1, h.n2, h.le, h.lo, h.hi⟩
theorem Good.plain {a b : Nat} (h : Good a b) : Good (plainF a) (plainF b) := by
  obtain ⟨p1, p2⟩ := plain_facts a
  obtain ⟨q1, q2⟩ := plain_facts b
  exact ⟨plainF_lt h.l1, plainF_lt h.l2, by rw [p1]; exact h.n1, by rw [q1]; exact h.n2, by rw [p2, q2]; exact h.le, by rw [p2]; exact h.lo, by rw [q2]; exact h.hi⟩
theorem add_fin_rank {a b : Nat} (mode : Int) (fa : finB a = true) (fb : finB b = true) (lb : b < 18446744073709551616) : nanB (faddF a b mode) = false ∧ frank (faddF a b mode) = frank (rz (fzs a + fzs b) (-1074) mode) := by
  refine ⟨(add_num mode fa fb lb).1, ?_⟩
  obtain ⟨h1, h2⟩ := add_fin mode fa fb lb
  by_cases h : fzs a + fzs b = 0
  · rw [frank_zero (h1 h), h]
    exact (frank_zero (by unfold rz; rw [if_pos rfl]; decide)).symm
  · rw [h2 h]; unfold rz; rw [if_neg h]
theorem add_infL {a b : Nat} (mode : Int) (lb : b < 18446744073709551616) (ia : infB a = true) (hb : nanB b = false) (h : infB b = true → fneg b = fneg a) : faddF a b mode = 9218868437227405312 + sgz (fneg a) := by
  unfold faddF
  rw [add_form, (inf_not ia).1, hb, ia]
  simp only [Bool.or_false, Bool.true_and, Bool.false_eq_true, if_false, if_true]
  cases ib : infB b with
  | true =>
    have := inf_val lb ib
    rw [h ib] at this
    rw [this]; simp
  | false => simp
theorem add_infR {a b : Nat} (mode : Int) (la : a < 18446744073709551616) (lb : b < 18446744073709551616) (ib : infB b = true) (ha : nanB a = false) (h : infB a = true → fneg a = fneg b) : faddF a b mode = 9218868437227405312 + sgz (fneg b) := by
  rw [faddF_comm la lb]
  exact add_infL mode la ib ha h
theorem inf_facts (s : Bool) : nanB (9218868437227405312 + sgz s) = false ∧ frank (9218868437227405312 + sgz s) = if s then -9218868437227405312 else 9218868437227405312 := by
  rw [Nat.add_comm]
  exact ⟨by cases s <;> decide, by rw [rank_sgz _ (Nat.le_refl _)]; rfl⟩
/-- upper bounds -/
theorem add_high {a e : Nat} (la : a < 18446744073709551616) (le : e < 18446744073709551616) (na : nanB a = false) (ne : nanB e = false) (ha : -9218868437227405312 < frank a) (he : -9218868437227405312 < frank e) : nanB (faddF a e 2) = false ∧ -9218868437227405312 < frank (faddF a e 2) := by
  have key : ∀ x, -9218868437227405312 < frank x → infB x = true → fneg x = false := fun x hx hi => by
    rcases inf_ends hi with ⟨_, h2⟩ | ⟨h1, _⟩
    · omega
    · exact h1
  rcases fin_or na with fa | ia
  · rcases fin_or ne with fe | ie
    · obtain ⟨h1, h2⟩ := add_fin_rank 2 fa fe le
      exact ⟨h1, by rw [h2]; exact (rz_dirs _ _).2.2⟩
    · rw [add_infR 2 la le ie na (fun h => absurd h (by rw [(fin_not fa).2]; decide)), key e he ie]
      exact ⟨(inf_facts false).1, by rw [(inf_facts false).2]; simp⟩
  · rw [add_infL 2 le ia ne (fun h => by rw [key e he h, key a ha ia]), key a ha ia]
    exact ⟨(inf_facts false).1, by rw [(inf_facts false).2]; simp⟩
theorem neg_good {a b : Nat} (h : Good a b) : Good (plainF (fnegF b)) (plainF (fnegF a)) ∧ frank (plainF (fnegF b)) = -frank b ∧ frank (plainF (fnegF a)) = -frank a := by
  have v := valid_plain fnegF_lt fnegF_lt (valid_neg h.l1 h.l2 h.valid)
  obtain ⟨p1, p2, -⟩ := neg_rank h.l1 h.n1
  obtain ⟨q1, q2, -⟩ := neg_rank h.l2 h.n2
  exact ⟨Good.of (plainF_lt fnegF_lt) (plainF_lt fnegF_lt) v, by rw [(plain_facts _).2, q2], by rw [(plain_facts _).2, p2]⟩
theorem has_zero {c d : Nat} (h : Good c d) (h1 : frank c ≤ 0) (h2 : 0 ≤ frank d) : containsF c d = true := by
  have hz : frank 0 = 0 := frank_zero (by decide)
  unfold containsF lessF
  rw [h.n1, h.n2, show nanB 0 = false by decide, hz]
  simp
  omega
theorem sub_zero {a b c d : Nat} (hx : Good a b) (hy : Good c d) (h1 : frank c ≤ frank a) (h2 : frank b ≤ frank d) (h0 : containsF c d = false) : containsF a b = false := by
  have hle := hx.le
  cases h : containsF a b with
  | false => rfl
  | true =>
    exfalso
    have hz : frank 0 = 0 := frank_zero (by decide)
    unfold containsF lessF at h
    rw [hx.n1, hx.n2, show nanB 0 = false by decide, hz] at h
    simp at h
    rw [has_zero hy (by omega) (by omega)] at h0
    cases h0
theorem abs_rank {a : Nat} (h : nanB a = false) : nanB (fabsF a) = false ∧ frank (fabsF a) = if frank a < 0 then -frank a else frank a := by
  have h1 := nanB_not h
  have h2 : fabsF a = fmag a := by unfold fabsF; rw [h]; rfl
  have h3 : fmag (fmag a) = fmag a := Nat.mod_eq_of_lt (fmag_lt a)
  have h4 : fneg (fmag a) = false := by unfold fneg; have := fmag_lt a; exact decide_eq_false (by omega)
  rw [h2]
  refine ⟨by unfold nanB; rw [h3]; exact decide_eq_false (by omega), ?_⟩
  unfold frank
  rw [h3, h4]
  simp only [Bool.false_eq_true, if_false]
  cases fneg a
  · simp; omega
  · simp; omega
theorem fin_of_rank {p : Nat} (hn : nanB p = false) (h1 : -9218868437227405312 < frank p) (h2 : frank p < 9218868437227405312) : finB p = true := by
  rcases fin_or hn with hf | hi
  · exact hf
  · rcases inf_ends hi with ⟨_, h⟩ | ⟨_, h⟩ <;> omega
end Go.Proofs.YtecaaklbhhjcjaaGreatDoor

namespace Go.Proofs.YtecaaklbhhjcjaaGreatDoor
open Go.RowKit

/-- what comparing two dyads gives -/
def DcmpIs (d d' : Dy) (c : Int) (ok : Bool) : Prop := (d = none ∨ d' = none) ∧ c = 0 ∧ ok = false ∨ d ≠ none ∧ d' ≠ none ∧ c = sgn3 (sc d) (sc d') ∧ ok = true
end Go.Proofs.YtecaaklbhhjcjaaGreatDoor

namespace Go.Proofs.YtecaaklbhhjcjaaGreatDoor
open Go.RowKit

theorem fof_at {f : Nat} {d : Dy} (hf : f < 18446744073709551616) (h : fdy f = d) (w : World) (hT : Table64 w) : Calls Tryz.prog 103 #[.int .u64 (f : Int)] w fun e w' => ∃ v, e = .returned v ∧ Dn w' v d ∧ Ext w w' := by rw [← h]; exact fof_any f hf w hT
end Go.Proofs.YtecaaklbhhjcjaaGreatDoor

namespace Go.Proofs.YtecaaklbhhjcjaaGreatDoor
open Go.RowKit

/-- a root's number: what is under it, and where -/
structure RootOf (N : Nat) (e : Int) (M hi lo r : Nat) (E : Int) (s : Nat) : Prop where
  val : M = N * 2 ^ s
  exp : 2 * E + s = e
  words : hi * 18446744073709551616 + lo = M
  hlo : lo < 18446744073709551616
  hi0 : 1152921504606846976 ≤ hi
  hi1 : hi < 4611686018427387904
  r0 : r * r ≤ M
  r1 : M < (r + 1) * (r + 1)
  r2 : 4611686018427387904 ≤ r
  r3 : r < 9223372036854775808

end Go.Proofs.YtecaaklbhhjcjaaGreatDoor

namespace Go.Proofs.YtecaaklbhhjcjaaGreatDoor
open Go.RowKit

/-- a value, the dyad that it reads as, is it normalized -/
structure DEnt where
  v : Value
  d : Dy
  c : Bool

def DEnt.Ok (w : World) (p : DEnt) : Prop := Dg w p.v p.d ∧ (p.c = true → Dn w p.v p.d)

theorem DEnt.Ok.ext {w w' : World} {p : DEnt} (h : p.Ok w) (he : Ext w w') : p.Ok w' := ⟨h.1.ext he, fun e => (h.2 e).ext he⟩
/-- what is at hand -/
structure DSt (W w : World) (L : List DEnt) : Prop where
  ext : Ext W w
  tab : Table w
  bag : ∀ p ∈ L, p.Ok w

theorem DSt.step {W w w' : World} {L : List DEnt} (h : DSt W w L) (he : Ext w w') : DSt W w' L := ⟨h.ext.trans he, h.tab.below he, fun p hp => (h.bag p hp).ext he⟩
theorem DSt.drew {W w : World} {L : List DEnt} (h : DSt W w L) : DSt W w.drew L := h.step (Below.refl _ _).drew
theorem DSt.alloc {W w : World} {L : List DEnt} (h : DSt W w L) (o : Obj) : DSt W (w.alloc o) L := h.step ((Below.refl _ w).alloc (Nat.le_refl _) o)
theorem DSt.dn {W w : World} {L : List DEnt} {v : Value} {d : Dy} (h : DSt W w L) (h1 : ⟨v, d, true⟩ ∈ L) : Dn w v d := (h.bag _ h1).2 rfl

section
variable {W w : World} {L : List DEnt} {u v : Value} {d d' : Dy} {c c' : Bool}

end
end Go.Proofs.YtecaaklbhhjcjaaGreatDoor

namespace Go.Proofs.YtecaaklbhhjcjaaGreatDoor
open Go.RowKit

section
variable {W w : World} {L : List DEnt} {u v : Value} {d d' : Dy} {c c' : Bool}
end

/-- is a dyad slim -/
def slimSays (n : Nat) (f : Int) (k b : Nat) : Bool := decide (n ≤ k ∧ (-(b : Int) ≤ f ∧ f ≤ b ∨ 131072 < f ∨ f < -131072))

set_option maxRecDepth 100000 in
set_option maxHeartbeats 4000000 in
theorem kitSlim_any (bb nb : Bool) (ao : Option Addr) (n ca : Nat) (f : Int) (k b : Nat) (w : World) (hk : k ≤ 100000) (hb : b ≤ 100000) :
    Calls Tryz.prog 36 #[.agg #[.bool bb, .bool nb, .slice ao n ca, .int .i64 f], .int .i64 k, .int .i64 b] w fun e w' => e = .returned (.bool (slimSays n f k b)) ∧ Ext w w' := by
  obtain ⟨r, hr⟩ : ∃ r, slimSays n f k b = r := ⟨_, rfl⟩
  rw [hr]
  have hcases : (¬ n ≤ k ∧ r = false) ∨ (n ≤ k ∧ f < -131072 ∧ r = true) ∨ (n ≤ k ∧ -131072 ≤ f ∧ f < -(b : Int) ∧ r = false) ∨ (n ≤ k ∧ -(b : Int) ≤ f ∧ f ≤ b ∧ r = true) ∨ (n ≤ k ∧ (b : Int) < f ∧ f ≤ 131072 ∧ r = false) ∨ (n ≤ k ∧ 131072 < f ∧ r = true) := by
    rw [← hr]
    unfold slimSays
    by_cases h1 : n ≤ k
    · rcases Int.lt_or_le f (-131072) with h2 | h2
      · right; left; exact ⟨h1, h2, decide_eq_true ⟨h1, Or.inr (Or.inr h2)⟩⟩
      · rcases Int.lt_or_le f (-(b : Int)) with h3 | h3
        · right; right; left; exact ⟨h1, h2, h3, decide_eq_false (by omega)⟩
        · rcases Int.lt_or_le (b : Int) f with h4 | h4
          · rcases Int.lt_or_le 131072 f with h5 | h5
            · right; right; right; right; right; exact ⟨h1, h5, decide_eq_true ⟨h1, Or.inr (Or.inl h5)⟩⟩
            · right; right; right; right; left; exact ⟨h1, h4, h5, decide_eq_false (by omega)⟩
          · right; right; right; left; exact ⟨h1, h3, h4, decide_eq_true ⟨h1, Or.inl ⟨h3, h4⟩⟩⟩
    · left; exact ⟨h1, decide_eq_false (fun h => h1 h.1)⟩
  clear hr
  have hk1 : (k : Int) ≤ 100000 := by omega
  go_enter Tryz.func36, Tryz.ntmps36
  go_upto_region 1 with fail
  obtain ⟨W, hW, hB, hbx, hz⟩ := dbox_new w bb nb ao n ca f
  rw [← hW]
  clear hW
  have HB := Lib.hid (show Ext w W from hB)
  clear hB
  generalize w.heap.size = B at *
  have k2 := hbx.c2
  have k3 := hbx.c3
  clear hbx hz
  rcases hcases with ⟨h1, rfl⟩ | ⟨h1, h2, rfl⟩ | ⟨h1, h2, h3, rfl⟩ | ⟨h1, h2, h3, rfl⟩ | ⟨h1, h2, h3, rfl⟩ | ⟨h1, h2, rfl⟩
  all_goals
    go_wp2
    go_ret
    refine ⟨?_, HB.out⟩
    first
      | rfl
      | exact congrArg (fun r => Ending.returned (Value.bool r)) (show (decide (131072 < f) || decide (f < -131072)) = false by rw [decide_eq_false (by omega), decide_eq_false (by omega)]; rfl)
      | exact congrArg (fun r => Ending.returned (Value.bool r)) (show (decide (f ≤ (b : Int)) || decide (131072 < f) || decide (f < -131072)) = false by rw [decide_eq_false (by omega), decide_eq_false (by omega), decide_eq_false (by omega)]; rfl)

end Go.Proofs.YtecaaklbhhjcjaaGreatDoor

namespace Go.Proofs.YtecaaklbhhjcjaaGreatDoor
open Go.RowKit

/-- what is known of a raw dyad that may be too long -/
def RawD (w : World) (_bb _nb : Bool) (ao : Option Addr) (n ca : Nat) (f : Int) : Prop := -9223372036854775808 ≤ f ∧ f ≤ 9223372036854775807 ∧ (n ≤ 1099511627776 → ∃ zs, Sl w ao n ca zs)

end Go.Proofs.YtecaaklbhhjcjaaGreatDoor

namespace Go.Proofs.YtecaaklbhhjcjaaGreatDoor
open Go.RowKit

theorem RawD.dl {w : World} {bb nb : Bool} {ao : Option Addr} {n ca : Nat} {f : Int} {k b : Nat} (h : RawD w bb nb ao n ca f) (hs : slimSays n f k b = true) (hk : k ≤ 1000) :
    ∃ d, Dl w (.agg #[.bool bb, .bool nb, .slice ao n ca, .int .i64 f]) d ∧ ((-(b : Int) ≤ f ∧ f ≤ b) ∨ d = none ∨ d = some (0, 0)) ∧ Nd d := by
  obtain ⟨h1, h2, h3⟩ := h
  unfold slimSays at hs
  simp only [decide_eq_true_eq] at hs
  obtain ⟨hn, hf⟩ := hs
  obtain ⟨zs, hz⟩ := h3 (by omega)
  have hbg : Bg w nb ao n ca (sgd nb zs) := ⟨⟨zs, hz, rfl⟩, by omega⟩
  have hbl := bg_blen hbg
  refine ⟨_, ⟨bb, nb, ao, n, ca, _, f, rfl, hbg, by omega, h1, h2, rfl⟩, ?_, ?_⟩
  · cases bb with
    | true => right; left; rfl
    | false =>
      rcases hf with h | h
      · left; exact h
      · right
        by_cases h0 : sgd nb zs = 0
        · right; simp only [Bool.false_eq_true, if_false]; rw [h0, dmk_zero]
        · left
          have ht := tzf_lt (show (sgd nb zs).natAbs ≠ 0 by omega)
          simp only [Bool.false_eq_true, if_false]
          unfold dmk
          rw [if_neg h0, if_pos (by omega)]
  · cases bb with
    | true => trivial
    | false => exact dmk_nd _ _

theorem slim_no_at (bb nb : Bool) (ao : Option Addr) (n ca : Nat) (f : Int) (w : World) (r : Bool) (h : slimSays n f 20 3000 = r) :
    Calls Tryz.prog 36 #[.agg #[.bool bb, .bool nb, .slice ao n ca, .int .i64 f], .int .i64 20, .int .i64 3000] w fun e w' => e = .returned (.bool r) ∧ Ext w w' := by
  rw [← h]; exact kitSlim_any bb nb ao n ca f 20 3000 w (by omega) (by omega)

end Go.Proofs.YtecaaklbhhjcjaaGreatDoor

namespace Go.Proofs.YtecaaklbhhjcjaaGreatDoor
theorem rz_self {b : Nat} (hb : finB b = true) (hl : b < 18446744073709551616) (mode : Int) : frank (rz (fzs b) (-1074) mode) = frank b := by
  cases hz : zeroB b with
  | true =>
    have h0 := zero_fzs hz
    unfold rz
    rw [if_pos h0]
    have := zero_rank.2 hz
    rw [this]
    decide
  | false =>
    have h0 := nz_fzs hz
    unfold rz
    rw [if_neg h0, fz_self hb hz hl]
theorem rz_up {S : Int} (k : Nat) (e mode : Int) : rz (S * 2 ^ k) (e - k) mode = rz S e mode := by
  unfold rz
  by_cases h : S = 0
  · rw [if_pos h, h, Int.zero_mul, if_pos rfl]
  · have h2 : S * 2 ^ k ≠ 0 := Int.mul_ne_zero h (Int.ne_of_gt (Int.pow_pos (by omega)))
    rw [if_neg h, if_neg h2, rnd_up h]
theorem vs_self (S : Int) : vs S (-1074) 1074 = S := by unfold vs; simp
/-- rounding downward is not above, upward not below: in units of 2^-1074 -/
theorem rz_encl (S : Int) : (finB (rz S (-1074) 1) = true → fzs (rz S (-1074) 1) ≤ S) ∧ (finB (rz S (-1074) 2) = true → S ≤ fzs (rz S (-1074) 2)) := by
  by_cases h : S = 0
  · unfold rz
    rw [if_pos h, if_pos h, h]
    decide
  · have E := rnd_enc (S := S) (e := -1074) (T := 1074) h (by omega) (by omega)
    have e1 := E.fl
    have e2 := E.fh
    rw [fs_fzs, vs_self] at e1 e2
    unfold rz
    rw [if_neg h, if_neg h]
    exact ⟨e1, e2⟩
theorem fin_top {x : Nat} (h : finB x = true) : -9218868437227405312 < frank x ∧ frank x < 9218868437227405312 := fin_rank_lt h
theorem high_sum {a e : Nat} (la : a < 18446744073709551616) (le : e < 18446744073709551616) (na : nanB a = false) (ne : nanB e = false) (ha : -9218868437227405312 < frank a) (he : -9218868437227405312 < frank e) :
    frank (faddF a e 2) = 9218868437227405312 ∨ (finB a = true ∧ finB e = true ∧ finB (faddF a e 2) = true ∧ fzs a + fzs e ≤ fzs (faddF a e 2)) := by
  have key : ∀ x, -9218868437227405312 < frank x → infB x = true → fneg x = false := fun x hx hi => by
    rcases inf_ends hi with ⟨_, h2⟩ | ⟨h1, _⟩
    · omega
    · exact h1
  obtain ⟨n1, l1⟩ := add_high la le na ne ha he
  rcases fin_or na with fa | ia
  · rcases fin_or ne with fe | ie
    · obtain ⟨h1, h2⟩ := add_fin_rank 2 fa fe le
      rcases fin_or h1 with fr | ir
      · right
        refine ⟨fa, fe, fr, ?_⟩
        obtain ⟨z1, z2⟩ := rz_facts (fzs a + fzs e) (-1074) 2
        have f2 : finB (rz (fzs a + fzs e) (-1074) 2) = true := by
          have := fin_top fr
          exact fin_of_rank z1 (by omega) (by omega)
        have h3 := (rz_encl (fzs a + fzs e)).2 f2
        have h4 := (fzs_rank z1 h1).1 (by omega)
        omega
      · left
        have h3 := infB_rank ir
        have h4 := key _ l1 ir
        rw [h4] at h3
        simpa using h3
    · left
      rw [add_infR 2 la le ie na (fun h => absurd h (by rw [(fin_not fa).2]; decide)), key e he ie, (inf_facts false).2]; rfl
  · left
    rw [add_infL 2 le ia ne (fun h => by rw [key e he h, key a ha ia]), key a ha ia, (inf_facts false).2]; rfl
theorem fzs_eq {a b : Nat} (ha : nanB a = false) (hb : nanB b = false) (h : frank a = frank b) : fzs a = fzs b := by
  have h1 := (fzs_rank ha hb).1 (by omega)
  have h2 := (fzs_rank hb ha).1 (by omega)
  omega
theorem negp_facts {f : Nat} (lf : f < 18446744073709551616) (nf : nanB f = false) : nanB (plainF (fnegF f)) = false ∧ plainF (fnegF f) < 18446744073709551616 ∧ frank (plainF (fnegF f)) = -frank f ∧ (finB (plainF (fnegF f)) = true → finB f = true ∧ fzs (plainF (fnegF f)) = -fzs f) := by
  obtain ⟨p1, p2, -⟩ := neg_rank lf nf
  obtain ⟨q1, q2⟩ := plain_facts (fnegF f)
  refine ⟨by rw [q1, p1], plainF_lt fnegF_lt, by rw [q2, p2], fun h => ?_⟩
  have h1 := fin_top h
  have hf : finB f = true := fin_of_rank nf (by omega) (by omega)
  refine ⟨hf, ?_⟩
  rw [← (fneg_fzs lf hf).1]
  exact fzs_eq (by rw [q1, p1]) p1 q2
end Go.Proofs.YtecaaklbhhjcjaaGreatDoor

namespace Go.Proofs.YtecaaklbhhjcjaaGreatDoor
theorem fzs_lt2 {f : Nat} (h : finB f = true) : (fzs f).natAbs < 2 ^ (52 + low46) := by
  have := fz_bound h
  rw [← fzs_abs] at this
  exact this
theorem is_sub2 {d d' : Dy} {S : Nat} {N M : Int} (h : Is d S N) (h' : Is d' S M) (hS : S ≤ 65536) {B : Nat} (hb : (N - M).natAbs < 2 ^ B) (hB : B ≤ 65536) : Is (dsub d d') S (N - M) := by
  have := h.add h'.neg hS (B := B) (by rw [← Int.sub_eq_add_neg]; exact hb) hB
  rw [← Int.sub_eq_add_neg] at this
  exact this
theorem frd_is {d : Dy} {S : Nat} {N : Int} (h : Is d S N) (mode : Int) : frdF d mode = rz N (-(S : Int)) mode := by
  obtain ⟨m, e, rfl, -, h0, rfl⟩ := h
  show rz m e mode = _
  have := rz_up (S := m) (e + S).toNat e mode
  rw [show e - (((e + S).toNat : Nat) : Int) = -(S : Int) by omega] at this
  exact this.symm
/-- is the number of a dyad, rounded both ways, in an interval? -/
def contD (lo hi : Nat) (d : Dy) : Bool := subF (frdF d 1) (frdF d 2) lo hi
theorem frd_good {d : Dy} {S : Nat} {N : Int} (h : Is d S N) : Good (frdF d 1) (frdF d 2) := by
  rw [frd_is h, frd_is h]
  obtain ⟨a1, a2⟩ := rz_facts N (-(S : Int)) 1
  obtain ⟨b1, b2⟩ := rz_facts N (-(S : Int)) 2
  obtain ⟨c1, c2, c3⟩ := rz_dirs N (-(S : Int))
  exact ⟨a2, b2, a1, b1, c2, c1, c3⟩
structure InI (a b p : Nat) : Prop where
  g : Good a b
  f : finB p = true
  l : p < 18446744073709551616
  lo : frank a ≤ frank p
  hi : frank p ≤ frank b
theorem InI.n {a b p : Nat} (h : InI a b p) : nanB p = false := fin_nan h.f
theorem InI.of {a b p : Nat} (ha : a < 18446744073709551616) (hb : b < 18446744073709551616) (hp : p < 18446744073709551616) (h : contF a b p = true) : InI a b p := by
  unfold contF at h
  simp only [Bool.and_eq_true, decide_eq_true_eq] at h
  exact ⟨Good.of ha hb h.1.1.1, h.1.1.2, hp, h.1.2, h.2⟩
theorem InI.neg {a b p : Nat} (h : InI a b p) : InI (plainF (fnegF b)) (plainF (fnegF a)) (plainF (fnegF p)) ∧ fzs (plainF (fnegF p)) = -fzs p := by
  obtain ⟨g1, g2, g3⟩ := neg_good h.g
  obtain ⟨m1, m2, m3, m4⟩ := negp_facts h.l h.n
  have t := fin_top h.f
  have f := fin_of_rank m1 (by omega) (by omega)
  have h1 := h.lo
  have h2 := h.hi
  exact ⟨⟨g1, f, m2, by omega, by omega⟩, (m4 f).2⟩
theorem pow_twice (k : Nat) : 2 ^ (k + 1) = 2 ^ k + 2 ^ k := by rw [Nat.pow_succ]; omega
theorem adds_is {p q : Nat} (fp : finB p = true) (fq : finB q = true) : Is (dadd (fdy p) (fdy q)) 1074 (fzs p + fzs q) := by
  have h1 := fzs_lt2 fp
  have h2 := fzs_lt2 fq
  have h3 := pow_twice (52 + low46)
  refine (fdy_is fp).add (fdy_is fq) (by omega) (B := 52 + low46 + 1) ?_ (by rw [low46_le]; omega)
  generalize 2 ^ (52 + low46) = P at *
  generalize 2 ^ (52 + low46 + 1) = Q at *
  omega
theorem subs_is {p q : Nat} (fp : finB p = true) (fq : finB q = true) : Is (dsub (fdy p) (fdy q)) 1074 (fzs p - fzs q) := by
  have h1 := fzs_lt2 fp
  have h2 := fzs_lt2 fq
  have h3 := pow_twice (52 + low46)
  refine is_sub2 (fdy_is fp) (fdy_is fq) (by omega) (B := 52 + low46 + 1) ?_ (by rw [low46_le]; omega)
  generalize 2 ^ (52 + low46) = P at *
  generalize 2 ^ (52 + low46 + 1) = Q at *
  omega
end Go.Proofs.YtecaaklbhhjcjaaGreatDoor

namespace Go.Proofs.YtecaaklbhhjcjaaGreatDoor
theorem is_half {d : Dy} {N : Int} {B : Nat} (h : Is d 1074 N) (hb : N.natAbs < 2 ^ B) (hB : B ≤ 65536) : Is (dscale d (-1)) (1074 + 1) N := by
  obtain ⟨m, e, h1, h2, h3, h4⟩ := h
  subst h1
  have e1 : (max (-131072 : Int) (min (-1) 131072)) = -1 := by decide
  have e2 : m * 2 ^ (e + -1 + ((1074 + 1 : Nat) : Int)).toNat = N := by
    rw [h4, show (e + -1 + ((1074 + 1 : Nat) : Int)).toNat = (e + (1074 : Nat)).toNat by omega]
  have h5 := is_mk (y := m) (f := e + -1) (S := 1074 + 1) (B := B) (by omega) (by omega) (by omega) (by rw [e2]; exact hb)
  rw [e2] at h5
  show Is (dmk m (e + max (-131072) (min (-1) 131072))) (1074 + 1) N
  rw [e1]
  exact h5
def midF (a b : Nat) : Nat := if a = 18442240474082181120 then (if b = 9218868437227405312 then 0 else 18442240474082181119) else if b = 9218868437227405312 then 9218868437227405311 else plainF (frdF (dscale (dadd (fdy a) (fdy b)) (-1)) 0)
def radF (a b : Nat) : Nat := plainF (greatF [faddF (midF a b) (fnegF a) 2, faddF b (fnegF (midF a b)) 2])
theorem rz_self1 {b : Nat} (hb : finB b = true) (hl : b < 18446744073709551616) (mode : Int) : frank (rz (2 * fzs b) (-1075) mode) = frank b := by
  have := rz_up (S := fzs b) 1 (-1074) mode
  rw [show (-1074 - ((1 : Nat) : Int)) = -1075 from rfl, show fzs b * 2 ^ 1 = 2 * fzs b by omega] at this
  rw [this, rz_self hb hl]
theorem mid_in {a b : Nat} (h : Good a b) : InI a b (midF a b) := by
  have e1 : frank 9218868437227405311 = 9218868437227405311 := by decide +kernel
  have e2 : frank 18442240474082181119 = -9218868437227405311 := by decide +kernel
  have e0 : frank 0 = 0 := by decide
  have ra := rank_is_ninf h.l1
  have rb := rank_is_inf h.l2
  have hlo := h.lo
  have hhi := h.hi
  have hle := h.le
  unfold midF
  by_cases ha : a = 18442240474082181120
  · have := ra.2 ha
    rw [if_pos ha]
    by_cases hb : b = 9218868437227405312
    · have := rb.2 hb
      rw [if_pos hb]
      exact ⟨h, by decide, by omega, by omega, by omega⟩
    · have hb2 : frank b ≠ 9218868437227405312 := fun e => hb (rb.1 e)
      rw [if_neg hb]
      exact ⟨h, by decide, by omega, by omega, by omega⟩
  · have ha2 : frank a ≠ -9218868437227405312 := fun e => ha (ra.1 e)
    have ra2 := rank_le h.n1
    rw [if_neg ha]
    by_cases hb : b = 9218868437227405312
    · have := rb.2 hb
      rw [if_pos hb]
      exact ⟨h, by decide, by omega, by omega, by omega⟩
    · have hb2 : frank b ≠ 9218868437227405312 := fun e => hb (rb.1 e)
      have rb2 := rank_le h.n2
      rw [if_neg hb]
      have fa : finB a = true := fin_of_rank h.n1 (by omega) hlo
      have fb : finB b = true := fin_of_rank h.n2 hhi (by omega)
      have hs := adds_is fa fb
      have hbd : (fzs a + fzs b).natAbs < 2 ^ (52 + low46 + 1) := by
        have h1 := fzs_lt2 fa
        have h2 := fzs_lt2 fb
        have h3 := pow_twice (52 + low46)
        generalize 2 ^ (52 + low46) = P at *
        generalize 2 ^ (52 + low46 + 1) = Q at *
        omega
      have hh := is_half hs hbd (by rw [low46_le]; omega)
      have hm := (fzs_rank h.n1 h.n2).1 hle
      have l1 := rz_le (S := 2 * fzs a) (S' := fzs a + fzs b) (e := -1075) (by omega) 0
      have l2 := rz_le (S := fzs a + fzs b) (S' := 2 * fzs b) (e := -1075) (by omega) 0
      rw [rz_self1 fa h.l1] at l1
      rw [rz_self1 fb h.l2] at l2
      obtain ⟨z1, z2⟩ := rz_facts (fzs a + fzs b) (-1075) 0
      have hf : frdF (dscale (dadd (fdy a) (fdy b)) (-1)) 0 = rz (fzs a + fzs b) (-1075) 0 := frd_is hh 0
      rw [hf]
      have p := plain_facts (rz (fzs a + fzs b) (-1075) 0)
      have tl := fin_top fa
      have tr := fin_top fb
      exact ⟨h, fin_plain (fin_of_rank z1 (by omega) (by omega)), plainF_lt z2, by rw [p.2]; omega, by rw [p.2]; omega⟩
theorem rad_num {a b : Nat} (h : Good a b) : nanB (faddF (midF a b) (fnegF a) 2) = false ∧ nanB (faddF b (fnegF (midF a b)) 2) = false := by
  have m := mid_in h
  have tm := fin_top m.f
  obtain ⟨n1, n2, -⟩ := neg_rank h.l1 h.n1
  obtain ⟨k1, k2, -⟩ := neg_rank m.l m.n
  have hlo := h.lo
  exact ⟨(add_high m.l fnegF_lt m.n n1 tm.1 (by omega)).1, (add_high h.l2 fnegF_lt h.n2 k1 h.hi (by omega)).1⟩
end Go.Proofs.YtecaaklbhhjcjaaGreatDoor

namespace Go.Proofs.YtecaaklbhhjcjaaGreatDoor
open Go.RowKit

/-- is a magnitude rounded up, as the reference says it: half is -1, 0 or 1 -/
def upB (neg : Bool) (half : Int) (odd : Bool) (mode : Int) : Bool :=
  if mode = 1 then neg else if mode = 2 then !neg else if mode = 3 then false else decide (half > 0) || decide (half = 0) && odd

set_option maxRecDepth 100000 in
set_option maxHeartbeats 2000000 in
theorem refUp_any (neg : Bool) (half : Int) (odd : Bool) (mode : Int) (w : World) :
    Calls Tryz.prog 252 #[.bool neg, .int .i64 half, .bool odd, .int .i64 mode] w fun e w' => e = .returned (.bool (upB neg half odd mode)) ∧ w = w' := by
  by_cases h1 : mode = 1
  · have hr : upB neg half odd mode = neg := by unfold upB; rw [if_pos h1]
    have HR := Lib.hid hr
    clear hr
    go_enter Tryz.func252, Tryz.ntmps252
    go_wp2
    go_ret
    exact ⟨by rw [HR.out]; rfl, rfl⟩
  · by_cases h2 : mode = 2
    · have hr : upB neg half odd mode = !neg := by unfold upB; rw [if_neg h1, if_pos h2]
      have HR := Lib.hid hr
      clear hr
      go_enter Tryz.func252, Tryz.ntmps252
      go_wp2
      go_ret
      exact ⟨by rw [HR.out]; rfl, rfl⟩
    · by_cases h3 : mode = 3
      · have hr : upB neg half odd mode = false := by unfold upB; rw [if_neg h1, if_neg h2, if_pos h3]
        have HR := Lib.hid hr
        clear hr
        go_enter Tryz.func252, Tryz.ntmps252
        go_wp2
        go_ret
        exact ⟨by rw [HR.out]; rfl, rfl⟩
      · have hr : upB neg half odd mode = (decide (half > 0) || decide (half = 0) && odd) := by unfold upB; rw [if_neg h1, if_neg h2, if_neg h3]
        have HR := Lib.hid hr
        clear hr
        by_cases g1 : half > 0
        · have HQ := Lib.hid (show (decide (half > 0) || decide (half = 0) && odd) = true by rw [decide_eq_true g1]; rfl)
          go_enter Tryz.func252, Tryz.ntmps252
          go_wp2
          go_ret
          exact ⟨by rw [HR.out, HQ.out]; rfl, rfl⟩
        · by_cases g2 : half = 0
          · subst g2
            have HQ := Lib.hid (show (decide ((0 : Int) > 0) || decide ((0 : Int) = 0) && odd) = odd by cases odd <;> rfl)
            clear g1
            go_enter Tryz.func252, Tryz.ntmps252
            go_wp2
            go_ret
            exact ⟨by rw [HR.out, HQ.out]; rfl, rfl⟩
          · have HQ := Lib.hid (show (decide (half > 0) || decide (half = 0) && odd) = false by rw [decide_eq_false g1, decide_eq_false g2]; rfl)
            go_enter Tryz.func252, Tryz.ntmps252
            go_wp2
            go_ret
            exact ⟨by rw [HR.out, HQ.out]; rfl, rfl⟩

set_option maxRecDepth 100000 in
set_option maxHeartbeats 2000000 in
theorem refLost_any (nb : Bool) (ao : Option Addr) (n cap : Nat) (x : Int) (e : Nat) (b : Bool) (hb : decide (x.natAbs % 2 ^ e ≠ 0) = b) (w : World) (h : Bg w nb ao n cap x) (he : e ≤ 1048576) :
    Calls Tryz.prog 251 #[.agg #[.bool nb, .slice ao n cap], .int .i64 (e : Int)] w fun r w' => r = .returned (.bool b) ∧ Ext w w' := by
  have hsm := h.small
  obtain ⟨zs, hz, hx⟩ := h.1
  have hnum : (num zs).toNat = x.natAbs := by rw [hx, sgd_natAbs hz.wf]
  have HN := Lib.hid hnum
  have HB := Lib.hid hb
  clear h hx hnum hb
  go_enter Tryz.func251, Tryz.ntmps251
  go_upto_region 1 with fail
  obtain ⟨W, hW, hB, hbx, hz1⟩ := box_new w nb ao n cap
  rw [← hW]
  clear hW
  have hz := hz.below hB
  have HE := Lib.hid (show Ext w W from hB)
  generalize w.heap.size = B at *
  have k0 := hbx.c0
  have k1 := hbx.c1
  go_wp2_with fail
  refine (refTrim_any ao n cap zs W hz).mono ?_
  rintro r w1 ⟨ro, k, rc, rfl, hs, hk, hw1⟩
  rw [HN.out] at hs
  have C := Lib.hid (refShr_num x.natAbs e ro k rc w1 hs (by omega) (by omega))
  clear hs hz k0 k1
  go_wp2_with fail
  refine C.out.mono ?_
  rintro r w3 ⟨so, l, sc, L, rfl, hL, -, hl, hw3⟩
  rw [HB.out]
  have hfin := Lib.hid (Ext.trans (Ext.trans HE.out hw1) hw3)
  go_wp2
  go_ret
  exact ⟨rfl, hfin.out⟩
end Go.Proofs.YtecaaklbhhjcjaaGreatDoor
