import Derived.Test.YtolghagbpnjpgaaDoorIMonoU7
import Derived.Test.YtolghagbpnjpgaaDoorIMonoU6
import Derived.Deep.RegionHeld3
import Derived.Test.YtolghagbpnjpgaaDoorRows
import Derived.Test.YtolghagbpnjpgaaDoorIMonoU1
import Derived.WalkKit
import Derived.WalkSpells
import Derived.WalkLawsBesides
import Derived.Laws.Bits64
import Derived.Laws.Bits64b
import Derived.Deep.QuietTactic
import Derived.BigQuiet
import Derived.Test.YtolghagbpnjpgaaDoorIMonoU5
import Derived.WalkSmall
import Derived.Lib.Hide
namespace Go.Proofs.YtolghagbpnjpgaaDoor
open Go.RowKit

theorem box_new (w : World) (nb : Bool) (ao : Option Addr) (n ca : Nat) :
    ∃ W, W = w.alloc (.cells #[.bool nb, .slice ao n ca] 35) ∧ Below w.heap.size w W ∧ Box W w.heap.size nb ao n ca ∧ w.heap.size + 1 ≤ W.heap.size :=
  ⟨_, rfl, (Below.refl _ w).alloc (Nat.le_refl _) _, Box.new w nb ao n ca, by simp⟩

theorem make1_val {nb nr : Bool} {zs : List Int} {w : World} {ro : Option Addr} {k rc : Nat} (hz : Wf zs) (hs : Sl w ro k rc (limbs (num zs).toNat)) (hr : nr = (nb && decide (0 < k))) : Bn w nr ro k rc (sgd nb zs) := by
  refine bn_of hs hr ?_
  rw [Int.toNat_of_nonneg (num_nonneg hz)]; rfl

set_option maxRecDepth 100000 in
set_option maxHeartbeats 1000000 in
theorem make1_any (nb : Bool) (ao : Option Addr) (n cap : Nat) (zs : List Int) (w : World) (h : Sl w ao n cap zs) :
    Calls Tryd.prog 115 #[.bool nb, .slice ao n cap] w fun e w' => ∃ nr ro k cr, e = .returned (.agg #[.bool nr, .slice ro k cr]) ∧ Bn w' nr ro k cr (sgd nb zs) ∧ k ≤ n ∧ Below w.heap.size w w' := by
  go_enter Tryd.func115, Tryd.ntmps115
  go_wp2_with fail
  obtain ⟨W, hW, hB, hbx, hsz⟩ := box_new w false none 0 0
  rw [← hW]
  clear hW
  have hs0 := h.below hB
  generalize hBe : w.heap.size = B at *
  have HBe := Lib.hid hBe; clear hBe
  refine (refTrim_any ao n cap zs W hs0).mono ?_
  rintro e w1 ⟨ro, k, rc, rfl, hs1, hk, hw1⟩
  have b1 := hbx.below hw1
  obtain ⟨h1, z1⟩ := bnext hB (by omega) hw1
  have q0 := b1.c0
  have q1 := b1.c1
  have q2 := b1.f 0
  have q3 := b1.f 1
  have hst := b1.stored (nb && decide (0 < k)) ro k rc
  have u0 := hst.c0
  have u1 := hst.c1
  have hres := make1_val (nb := nb) h.wf (hs1.only_box b1 (only_set2 w1 B (.bool (nb && decide (0 < k))) (.slice ro k rc))) rfl
  have hbl := h1.trans ((only_set2 w1 B (.bool (nb && decide (0 < k))) (.slice ro k rc)).below (Nat.le_refl _))
  have HRES := Lib.hid hres; clear hres
  cases nb
  · simp only [Bool.false_and] at u0 u1 HRES hbl
    go_wp2
    refine bodyPost_ret (v := .agg #[.bool false, .slice ro k rc]) (by simp [results, Tryd.results115, go_sem, u0, u1]) rfl ⟨_, ro, k, rc, rfl, HRES.out, hk, ?_⟩
    rw [HBe.out]; exact hbl
  · simp only [Bool.true_and] at u0 u1 HRES hbl
    go_wp2
    refine bodyPost_ret (v := .agg #[.bool (decide (0 < k)), .slice ro k rc]) (by simp [results, Tryd.results115, go_sem, u0, u1]) rfl ⟨_, ro, k, rc, rfl, HRES.out, hk, ?_⟩
    rw [HBe.out]; exact hbl

set_option maxRecDepth 100000 in
set_option maxHeartbeats 1000000 in
theorem refNorm_any (nb : Bool) (ao : Option Addr) (n cap : Nat) (x : Int) (w : World) (h : Bg w nb ao n cap x) :
    Calls Tryd.prog 99 #[.agg #[.bool nb, .slice ao n cap]] w fun e w' => ∃ nr ro k cr, e = .returned (.agg #[.bool nr, .slice ro k cr]) ∧ Bn w' nr ro k cr x ∧ k ≤ n ∧ Below w.heap.size w w' := by
  obtain ⟨⟨zs, hs, hx⟩, hsm⟩ := h
  subst hx
  go_enter Tryd.func99, Tryd.ntmps99
  go_wp2_with fail
  obtain ⟨W, hW, hB, hbx, hrx, hz⟩ := boxes1 w nb ao n cap
  rw [← hW]
  clear hW
  have hs0 := hs.below hB
  generalize hBe : w.heap.size = B at *
  have HBe := Lib.hid hBe; clear hBe
  have k0 := hbx.c0
  have k1 := hbx.c1
  go_wp2_with fail
  refine (make1_any nb ao n cap zs W hs0).mono ?_
  rintro e w1 ⟨nr, ro, k, rc, rfl, hs1, hk, hw1⟩
  have b1 := hrx.below hw1
  obtain ⟨h1, z1⟩ := bnext hB (by omega) hw1
  have q0 := b1.c0
  have q1 := b1.c1
  have q2 := b1.f 0
  have q3 := b1.f 1
  have hst := b1.stored nr ro k rc
  have u0 := hst.c0
  have u1 := hst.c1
  have hres : Bn ((w1.setCell ⟨B + 1, 0, none⟩ (.bool nr)).setCell ⟨B + 1, 1, none⟩ (.slice ro k rc)) nr ro k rc (sgd nb zs) := ⟨hs1.neg, hs1.sl.only_box b1 (only_set2 _ _ _ _)⟩
  have hbl := h1.trans ((only_set2 w1 (B + 1) (.bool nr) (.slice ro k rc)).below (Nat.le_succ B))
  have HRES := Lib.hid hres; clear hres
  go_wp2
  refine bodyPost_ret (v := .agg #[.bool nr, .slice ro k rc]) (by simp [results, Tryd.results99, go_sem, u0, u1]) rfl ⟨_, ro, k, rc, rfl, HRES.out, hk, ?_⟩
  rw [HBe.out]; exact hbl

set_option maxRecDepth 100000 in
set_option maxHeartbeats 1000000 in
theorem refSign_any (nb : Bool) (ao : Option Addr) (n cap : Nat) (x : Int) (w : World) (h : Bg w nb ao n cap x) :
    Calls Tryd.prog 96 #[.agg #[.bool nb, .slice ao n cap]] w fun e w' => e = .returned (.int .i64 (sgn3 x 0)) ∧ Below w.heap.size w w' := by
  go_enter Tryd.func96, Tryd.ntmps96
  go_wp2_with fail
  obtain ⟨W, hW, hB, hbx, hsz⟩ := box_new w nb ao n cap
  rw [← hW]
  clear hW
  have hs0 := h.below hB
  generalize hBe : w.heap.size = B at *
  have HBe := Lib.hid hBe; clear hBe
  have k0 := hbx.c0
  have k1 := hbx.c1
  go_wp2_with fail
  refine (refNorm_any nb ao n cap x W hs0).mono ?_
  rintro e w1 ⟨nr, ro, k, rc, rfl, hs1, hk, hw1⟩
  have b1 := hbx.below hw1
  obtain ⟨h1, z1⟩ := bnext hB (by omega) hw1
  have q0 := b1.c0
  have q1 := b1.c1
  have q2 := b1.f 0
  have q3 := b1.f 1
  have hst := b1.stored nr ro k rc
  have u0 := hst.c0
  have u1 := hst.c1
  have hbl := h1.trans ((only_set2 w1 B (.bool nr) (.slice ro k rc)).below (Nat.le_refl B))
  have hz := len_zero_iff hs1.sl.len
  have hneg := hs1.neg
  clear h hs0 hB hbx k0 k1 b1 h1 hst hsz
  have HN := Lib.hid hneg; clear hneg
  by_cases h0 : k = 0
  · have hx0 : x = 0 := by have := hz.1 h0; omega
    have HX := Lib.hid hx0
    subst h0
    clear hz hx0
    go_wp2
    go_ret
    exact ⟨by rw [HX.out]; rfl, by rw [HBe.out]; exact hbl⟩
  · have hk0 : ((k : Int) == 0) = false := beq_eq_false_iff_ne.2 (by omega)
    have hx0 : x ≠ 0 := by intro e; exact h0 (hz.2 (by omega))
    have HX := Lib.hid hx0
    clear hx0 h0 hz
    cases nr with
    | true =>
      have hlt : x < 0 := by have := HN.out; simpa using this.symm
      have e : sgn3 x 0 = -1 := by simp [sgn3]; omega
      have HE := Lib.hid e
      clear e hlt
      go_wp2
      go_ret
      exact ⟨by rw [HE.out]; rfl, by rw [HBe.out]; exact hbl⟩
    | false =>
      have hlt : ¬ x < 0 := by have := HN.out; simpa using this.symm
      have e : sgn3 x 0 = 1 := by have := HX.out; simp [sgn3]; omega
      have HE := Lib.hid e
      clear e hlt
      go_wp2
      go_ret
      exact ⟨by rw [HE.out]; rfl, by rw [HBe.out]; exact hbl⟩
end Go.Proofs.YtolghagbpnjpgaaDoor

namespace Go.Proofs.YtolghagbpnjpgaaDoor
open Go.RowKit

section
variable {W w : World} {L : List Ent} {u v : Value} {x y : Int} {N M : Nat} {c d : Bool}

end

theorem St.alloc {W w : World} {L : List Ent} (h : St W w L) (o : Obj) : St W (w.alloc o) L := h.step ((Below.refl _ w).alloc (Nat.le_refl _) o)

theorem Ent.Ok.only_box {w w' : World} {p : Ent} {g : Nat} {nb : Bool} {ao : Option Addr} {n ca : Nat} (h : p.Ok w) (hb : Box w g nb ao n ca) (ho : Only g w w') : p.Ok w' := by
  obtain ⟨nb, ao, n, ca, h1, ⟨⟨zs, h2, h2'⟩, h2''⟩, h3, h4, h5⟩ := h
  exact ⟨nb, ao, n, ca, h1, ⟨⟨zs, h2.only_box hb ho, h2'⟩, h2''⟩, h3, h4, fun e => ⟨(h5 e).neg, (h5 e).sl.only_box hb ho⟩⟩

/-- a variable of this call's own is written -/
theorem St.stored {W w : World} {L : List Ent} {g : Nat} {nb : Bool} {ao : Option Addr} {n ca : Nat} (h : St W w L) (hb : Box w g nb ao n ca) (hg : W.heap.size ≤ g) (mb : Bool) (bo : Option Addr) (m cb : Nat) :
    St W ((w.setCell ⟨g, 0, none⟩ (.bool mb)).setCell ⟨g, 1, none⟩ (.slice bo m cb)) L :=
  ⟨Below.trans h.ext ((only_set2 w g _ _).below hg), fun p hp => (h.bag p hp).only_box hb (only_set2 w g _ _)⟩

end Go.Proofs.YtolghagbpnjpgaaDoor

namespace Go.Proofs.YtolghagbpnjpgaaDoor
open Go.RowKit

/-- how many bits a number has -/
def blen (a : Nat) : Nat := if a = 0 then 0 else Nat.log2 a + 1

theorem blen_of {a k : Nat} (h0 : 2 ^ k ≤ a) (h1 : a < 2 ^ (k + 1)) : blen a = k + 1 := by
  have ha : a ≠ 0 := by have := Nat.pos_of_ne_zero (show 2 ^ k ≠ 0 by simp); omega
  unfold blen
  rw [if_neg ha, (Nat.log2_eq_iff ha).2 ⟨h0, h1⟩]

theorem blen_mul {a : Nat} (h : a ≠ 0) (k : Nat) : blen (a * 2 ^ k) = blen a + k := by
  have h1 := Nat.log2_self_le h
  have h2 := @Nat.lt_log2_self a
  have e : blen a = Nat.log2 a + 1 := by unfold blen; rw [if_neg h]
  have hp : 0 < 2 ^ k := Nat.pos_of_ne_zero (by simp)
  rw [e, blen_of (k := Nat.log2 a + k)]
  · omega
  · rw [Nat.pow_add]; exact Nat.mul_le_mul_right _ h1
  · rw [show Nat.log2 a + k + 1 = Nat.log2 a + 1 + k by omega, Nat.pow_add]; exact Nat.mul_lt_mul_of_pos_right h2 hp

theorem blen_top {a m : Nat} (hm : (limbs a).length = m + 1) : ((m : Int) * 32 + (Lib.bitLen ((limbs a).getD m 0).toNat : Int)) = (blen a : Int) := by
  have h1 : a < 4294967296 ^ (m + 1) := (limbs_len_le a (m + 1)).1 (by omega)
  have h2 : 4294967296 ^ m ≤ a := by
    rcases Nat.lt_or_ge a (4294967296 ^ m) with h | h
    · have := (limbs_len_le a m).2 h; omega
    · exact h
  have hpm : 0 < 4294967296 ^ m := Nat.pos_of_ne_zero (by simp)
  have hd1 : a / 4294967296 ^ m < 4294967296 := by
    rw [Nat.div_lt_iff_lt_mul hpm, Nat.mul_comm, ← Nat.pow_succ]; exact h1
  have hd0 : 0 < a / 4294967296 ^ m := Nat.div_pos h2 hpm
  have ht : (limbs a).getD m 0 = ((a / 4294967296 ^ m : Nat) : Int) := by
    rw [limbs_at, Nat.mod_eq_of_lt hd1]
  rw [ht, Int.toNat_natCast]
  have hdm := Nat.div_add_mod a (4294967296 ^ m)
  have hml := Nat.mod_lt a hpm
  generalize htt : a / 4294967296 ^ m = t at *
  generalize a % 4294967296 ^ m = r at *
  obtain ⟨l, e, l0, l1⟩ := bitLen_spec t (by omega) (by omega)
  have hp : (4294967296 : Nat) ^ m = 2 ^ (m * 32) := by rw [Nat.mul_comm, Nat.pow_mul]
  rw [e, blen_of (k := m * 32 + l)]
  · omega
  · rw [Nat.pow_add, ← hp]
    have := Nat.mul_le_mul_left (4294967296 ^ m) l0
    omega
  · rw [Nat.add_assoc, Nat.pow_add, ← hp]
    have := Nat.mul_le_mul_left (4294967296 ^ m) (show t + 1 ≤ 2 ^ (l + 1) from l1)
    rw [Nat.mul_add, Nat.mul_one] at this
    omega

theorem bitLen_32 {x : Nat} (h : x < 4294967296) : Lib.bitLen x ≤ 32 := by
  by_cases h0 : x = 0
  · rw [h0, bitLen_zero]; omega
  · obtain ⟨l, e, l0, _⟩ := bitLen_spec x h0 (by omega)
    rcases Nat.lt_or_ge l 32 with hl | hl
    · omega
    · have := Nat.pow_le_pow_right (show 0 < 2 by omega) hl
      omega

end Go.Proofs.YtolghagbpnjpgaaDoor

namespace Go.Proofs.YtolghagbpnjpgaaDoor
open Go.RowKit

theorem nanB_not {f : Nat} (h : nanB f = false) : fmag f ≤ 9218868437227405312 := by
  have := of_decide_eq_false h
  omega
theorem neg_rank {f : Nat} (hf : f < 18446744073709551616) (hn : nanB f = false) : nanB (fnegF f) = false ∧ frank (fnegF f) = - frank f ∧ (fnegF f = 9218868437227405312 → frank f = -9218868437227405312) := by
  have hp := f_parts hf
  have hm := nanB_not hn
  have hl := fmag_lt f
  unfold fnegF
  rw [if_neg (by rw [hn]; simp)]
  cases hs : fneg f
  · rw [hs] at hp
    have e1 : fneg (sgz (!false) + fmag f) = true := by unfold fneg sgz; simp
    have e2 : fmag (sgz (!false) + fmag f) = fmag f := by unfold fmag sgz; simp <;> omega
    refine ⟨decide_eq_false (by rw [e2]; omega), ?_, ?_⟩
    · unfold frank; rw [e1, e2, hs]; simp
    · unfold sgz; simp <;> omega
  · rw [hs] at hp
    have e1 : fneg (sgz (!true) + fmag f) = false := by unfold fneg sgz; simp <;> omega
    have e2 : fmag (sgz (!true) + fmag f) = fmag f := by unfold fmag sgz; simp <;> omega
    refine ⟨decide_eq_false (by rw [e2]; omega), ?_, ?_⟩
    · unfold frank; rw [e1, e2, hs]; simp
    · intro h
      unfold frank
      rw [hs, if_pos rfl]
      unfold sgz at h
      simp at h
      omega

/-- the results of Cmp -/
def FcmpOut (a b : Nat) (s : Int) (ok : Bool) : Prop := if nanB a || nanB b then s = 0 ∧ ok = false else s = sgn3 (frank a) (frank b) ∧ ok = true
theorem fcmp_nan {a b : Nat} (h : nanB a = true ∨ nanB b = true) : FcmpOut a b 0 false := by
  unfold FcmpOut
  rw [if_pos (by rcases h with h | h <;> simp [h])]
  exact ⟨rfl, rfl⟩
theorem fcmp_num {a b : Nat} {s : Int} (ha : nanB a = false) (hb : nanB b = false) (hs : sgn3 (frank a) (frank b) = s) : FcmpOut a b s true := by
  unfold FcmpOut
  rw [if_neg (by simp [ha, hb])]
  exact ⟨hs.symm, rfl⟩

set_option maxRecDepth 100000 in
set_option maxHeartbeats 400000 in
theorem compare64_any (x y : Int) (w : World) : Calls Tryd.prog 41 #[.int .i64 x, .int .i64 y] w fun e w' => e = .returned (.int .i64 (sgn3 x y)) ∧ w = w' := by
  have hx : (x != x) = false := by simp
  have hy : (y != y) = false := by simp
  by_cases h1 : x < y
  · have e : sgn3 x y = -1 := by simp [sgn3, h1]
    have E := Lib.hid e; clear e
    go_enter Tryd.func41, Tryd.ntmps41
    go_wp2_with go_in
    go_ret
    exact ⟨by rw [E.out]; rfl, rfl⟩
  · by_cases h2 : y < x
    · have e : sgn3 x y = 1 := by simp [sgn3, h1, h2]
      have E := Lib.hid e; clear e
      go_enter Tryd.func41, Tryd.ntmps41
      go_wp2_with go_in
      go_ret
      exact ⟨by rw [E.out]; rfl, rfl⟩
    · have e : sgn3 x y = 0 := by simp [sgn3, h1, h2]
      have E := Lib.hid e; clear e
      go_enter Tryd.func41, Tryd.ntmps41
      go_wp2_with go_in
      go_ret
      exact ⟨by rw [E.out]; rfl, rfl⟩

set_option maxRecDepth 100000 in
set_option maxHeartbeats 1000000 in
theorem fcmp_any (a b : Nat) (ha : a < 18446744073709551616) (hb : b < 18446744073709551616) (s : Int) (ok : Bool) (h : FcmpOut a b s ok) (w : World) :
    Calls Tryd.prog 17 #[.int .u64 (a : Int), .int .u64 (b : Int)] w fun e w' => e = .returned (.tuple #[.int .i64 s, .bool ok]) ∧ Ext w w' := by
  unfold FcmpOut at h
  obtain ⟨na, hna⟩ : ∃ na, nanB a = na := ⟨_, rfl⟩
  obtain ⟨nb, hnb⟩ : ∃ nb, nanB b = nb := ⟨_, rfl⟩
  rw [hna, hnb] at h
  have HA := Lib.hid hna; clear hna
  have HB := Lib.hid hnb; clear hnb
  cases na with
  | true =>
    simp only [Bool.true_or, if_true] at h
    obtain ⟨rfl, rfl⟩ := h
    go_enter Tryd.func17, Tryd.ntmps17
    go_wp2_with (go_at_call 40; refine (isNaN_any a ha _).mono ?_; rw [HA.out]; rintro e w' ⟨rfl, rfl⟩)
    go_ret2
    exact ⟨rfl, Below.refl _ _⟩
  | false =>
    cases nb with
    | true =>
      simp only [Bool.false_or, if_true] at h
      obtain ⟨rfl, rfl⟩ := h
      go_enter Tryd.func17, Tryd.ntmps17
      go_wp2_with fail
      refine (isNaN_any a ha _).mono ?_
      rw [HA.out]
      rintro e w' ⟨rfl, rfl⟩
      go_wp2_with fail
      refine (isNaN_any b hb _).mono ?_
      rw [HB.out]
      rintro e w' ⟨rfl, rfl⟩
      go_wp2
      go_ret2
      exact ⟨rfl, Below.refl _ _⟩
    | false =>
      simp only [Bool.or_self, Bool.false_eq_true, if_false] at h
      obtain ⟨hs, rfl⟩ := h
      have ra := rank_any a ha
      have rb := rank_any b hb
      generalize frank a = x at *
      generalize frank b = y at *
      have RA := Lib.hid ra; clear ra
      have RB := Lib.hid rb; clear rb
      subst hs
      have HC := Lib.hid (compare64_any x y)
      generalize sgn3 x y = s at *
      go_enter Tryd.func17, Tryd.ntmps17
      go_wp2_with fail
      refine (isNaN_any a ha _).mono ?_
      rw [HA.out]
      rintro e w' ⟨rfl, rfl⟩
      go_wp2_with fail
      refine (isNaN_any b hb _).mono ?_
      rw [HB.out]
      rintro e w' ⟨rfl, rfl⟩
      go_wp2_with fail
      refine (RA.out _).mono ?_
      rintro e w' ⟨rfl, rfl⟩
      go_wp2_with fail
      refine (RB.out _).mono ?_
      rintro e w' ⟨rfl, rfl⟩
      go_wp2_with fail
      refine (HC.out _).mono ?_
      rintro e w' ⟨rfl, rfl⟩
      go_wp2
      go_ret2
      exact ⟨rfl, Below.refl _ _⟩
end Go.Proofs.YtolghagbpnjpgaaDoor
