import Derived.Test.YtecaaklbhhjcjaaGreatDoorIRelU13
import Derived.Test.YtecaaklbhhjcjaaGreatDoorIRelU6
import Derived.Test.YtecaaklbhhjcjaaGreatDoorIRelU8
import Derived.Test.YtecaaklbhhjcjaaGreatDoorIRelU1
import Derived.Test.YtecaaklbhhjcjaaGreatDoorIRelU7
namespace Go.Proofs.YtecaaklbhhjcjaaGreatDoor
open Go.RowKit

theorem box_new (w : World) (nb : Bool) (ao : Option Addr) (n ca : Nat) :
    ∃ W, W = w.alloc (.cells #[.bool nb, .slice ao n ca] 24) ∧ Below w.heap.size w W ∧ Box W w.heap.size nb ao n ca ∧ w.heap.size + 1 ≤ W.heap.size :=
  ⟨_, rfl, (Below.refl _ w).alloc (Nat.le_refl _) _, Box.new w nb ao n ca, by simp⟩

theorem make1_val {nb nr : Bool} {zs : List Int} {w : World} {ro : Option Addr} {k rc : Nat} (hz : Wf zs) (hs : Sl w ro k rc (limbs (num zs).toNat)) (hr : nr = (nb && decide (0 < k))) : Bn w nr ro k rc (sgd nb zs) := by
  refine bn_of hs hr ?_
  rw [Int.toNat_of_nonneg (num_nonneg hz)]; rfl

set_option maxRecDepth 100000 in
set_option maxHeartbeats 1000000 in
theorem make1_any (nb : Bool) (ao : Option Addr) (n cap : Nat) (zs : List Int) (w : World) (h : Sl w ao n cap zs) :
    Calls Tryz.prog 68 #[.bool nb, .slice ao n cap] w fun e w' => ∃ nr ro k cr, e = .returned (.agg #[.bool nr, .slice ro k cr]) ∧ Bn w' nr ro k cr (sgd nb zs) ∧ k ≤ n ∧ Below w.heap.size w w' := by
  go_enter Tryz.func68, Tryz.ntmps68
  go_wp2_with fail
  obtain ⟨W, hW, hB, hbx, hsz⟩ := box_new w false none 0 0
  rw [← hW]
  clear hW
  have hs0 := h.below hB
  generalize hBe : w.heap.size = B at *
  have HBe := Lib.hid hBe; clear hBe
  refine (refTrim_any ao n cap zs W hs0).mono ?_
  rintro e w1 ⟨ro, k, rc, rfl, hs1, hk, hw1⟩
  have b1 := hbx.below hw1
  obtain ⟨h1, z1⟩ := bnext hB (by omega) hw1
  have q0 := b1.c0
  have q1 := b1.c1
  have q2 := b1.f 0
  have q3 := b1.f 1
  have hst := b1.stored (nb && decide (0 < k)) ro k rc
  have u0 := hst.c0
  have u1 := hst.c1
  have hres := make1_val (nb := nb) h.wf (hs1.only_box b1 (only_set2 w1 B (.bool (nb && decide (0 < k))) (.slice ro k rc))) rfl
  have hbl := h1.trans ((only_set2 w1 B (.bool (nb && decide (0 < k))) (.slice ro k rc)).below (Nat.le_refl _))
  have HRES := Lib.hid hres; clear hres
  cases nb
  · simp only [Bool.false_and] at u0 u1 HRES hbl
    go_wp2
    refine bodyPost_ret (v := .agg #[.bool false, .slice ro k rc]) (by simp [results, Tryz.results68, go_sem, u0, u1]) rfl ⟨_, ro, k, rc, rfl, HRES.out, hk, ?_⟩
    rw [HBe.out]; exact hbl
  · simp only [Bool.true_and] at u0 u1 HRES hbl
    go_wp2
    refine bodyPost_ret (v := .agg #[.bool (decide (0 < k)), .slice ro k rc]) (by simp [results, Tryz.results68, go_sem, u0, u1]) rfl ⟨_, ro, k, rc, rfl, HRES.out, hk, ?_⟩
    rw [HBe.out]; exact hbl

set_option maxRecDepth 100000 in
set_option maxHeartbeats 1000000 in
theorem refNorm_any (nb : Bool) (ao : Option Addr) (n cap : Nat) (x : Int) (w : World) (h : Bg w nb ao n cap x) :
    Calls Tryz.prog 66 #[.agg #[.bool nb, .slice ao n cap]] w fun e w' => ∃ nr ro k cr, e = .returned (.agg #[.bool nr, .slice ro k cr]) ∧ Bn w' nr ro k cr x ∧ k ≤ n ∧ Below w.heap.size w w' := by
  obtain ⟨⟨zs, hs, hx⟩, hsm⟩ := h
  subst hx
  go_enter Tryz.func66, Tryz.ntmps66
  go_wp2_with fail
  obtain ⟨W, hW, hB, hbx, hrx, hz⟩ := boxes1 w nb ao n cap
  rw [← hW]
  clear hW
  have hs0 := hs.below hB
  generalize hBe : w.heap.size = B at *
  have HBe := Lib.hid hBe; clear hBe
  have k0 := hbx.c0
  have k1 := hbx.c1
  go_wp2_with fail
  refine (make1_any nb ao n cap zs W hs0).mono ?_
  rintro e w1 ⟨nr, ro, k, rc, rfl, hs1, hk, hw1⟩
  have b1 := hrx.below hw1
  obtain ⟨h1, z1⟩ := bnext hB (by omega) hw1
  have q0 := b1.c0
  have q1 := b1.c1
  have q2 := b1.f 0
  have q3 := b1.f 1
  have hst := b1.stored nr ro k rc
  have u0 := hst.c0
  have u1 := hst.c1
  have hres : Bn ((w1.setCell ⟨B + 1, 0, none⟩ (.bool nr)).setCell ⟨B + 1, 1, none⟩ (.slice ro k rc)) nr ro k rc (sgd nb zs) := ⟨hs1.neg, hs1.sl.only_box b1 (only_set2 _ _ _ _)⟩
  have hbl := h1.trans ((only_set2 w1 (B + 1) (.bool nr) (.slice ro k rc)).below (Nat.le_succ B))
  have HRES := Lib.hid hres; clear hres
  go_wp2
  refine bodyPost_ret (v := .agg #[.bool nr, .slice ro k rc]) (by simp [results, Tryz.results66, go_sem, u0, u1]) rfl ⟨_, ro, k, rc, rfl, HRES.out, hk, ?_⟩
  rw [HBe.out]; exact hbl

set_option maxRecDepth 100000 in
set_option maxHeartbeats 1000000 in
theorem refSign_any (nb : Bool) (ao : Option Addr) (n cap : Nat) (x : Int) (w : World) (h : Bg w nb ao n cap x) :
    Calls Tryz.prog 13 #[.agg #[.bool nb, .slice ao n cap]] w fun e w' => e = .returned (.int .i64 (sgn3 x 0)) ∧ Below w.heap.size w w' := by
  go_enter Tryz.func13, Tryz.ntmps13
  go_wp2_with fail
  obtain ⟨W, hW, hB, hbx, hsz⟩ := box_new w nb ao n cap
  rw [← hW]
  clear hW
  have hs0 := h.below hB
  generalize hBe : w.heap.size = B at *
  have HBe := Lib.hid hBe; clear hBe
  have k0 := hbx.c0
  have k1 := hbx.c1
  go_wp2_with fail
  refine (refNorm_any nb ao n cap x W hs0).mono ?_
  rintro e w1 ⟨nr, ro, k, rc, rfl, hs1, hk, hw1⟩
  have b1 := hbx.below hw1
  obtain ⟨h1, z1⟩ := bnext hB (by omega) hw1
  have q0 := b1.c0
  have q1 := b1.c1
  have q2 := b1.f 0
  have q3 := b1.f 1
  have hst := b1.stored nr ro k rc
  have u0 := hst.c0
  have u1 := hst.c1
  have hbl := h1.trans ((only_set2 w1 B (.bool nr) (.slice ro k rc)).below (Nat.le_refl B))
  have hz := len_zero_iff hs1.sl.len
  have hneg := hs1.neg
  clear h hs0 hB hbx k0 k1 b1 h1 hst hsz
  have HN := Lib.hid hneg; clear hneg
  by_cases h0 : k = 0
  · have hx0 : x = 0 := by have := hz.1 h0; omega
    have HX := Lib.hid hx0
    subst h0
    clear hz hx0
    go_wp2
    go_ret
    exact ⟨by rw [HX.out]; rfl, by rw [HBe.out]; exact hbl⟩
  · have hk0 : ((k : Int) == 0) = false := beq_eq_false_iff_ne.2 (by omega)
    have hx0 : x ≠ 0 := by intro e; exact h0 (hz.2 (by omega))
    have HX := Lib.hid hx0
    clear hx0 h0 hz
    cases nr with
    | true =>
      have hlt : x < 0 := by have := HN.out; simpa using this.symm
      have e : sgn3 x 0 = -1 := by simp [sgn3]; omega
      have HE := Lib.hid e
      clear e hlt
      go_wp2
      go_ret
      exact ⟨by rw [HE.out]; rfl, by rw [HBe.out]; exact hbl⟩
    | false =>
      have hlt : ¬ x < 0 := by have := HN.out; simpa using this.symm
      have e : sgn3 x 0 = 1 := by have := HX.out; simp [sgn3]; omega
      have HE := Lib.hid e
      clear e hlt
      go_wp2
      go_ret
      exact ⟨by rw [HE.out]; rfl, by rw [HBe.out]; exact hbl⟩
end Go.Proofs.YtecaaklbhhjcjaaGreatDoor

namespace Go.Proofs.YtecaaklbhhjcjaaGreatDoor
open Go.RowKit

section
variable {W w : World} {L : List Ent} {u v : Value} {x y : Int} {N M : Nat} {c d : Bool}

end

theorem St.alloc {W w : World} {L : List Ent} (h : St W w L) (o : Obj) : St W (w.alloc o) L := h.step ((Below.refl _ w).alloc (Nat.le_refl _) o)

theorem Ent.Ok.only_box {w w' : World} {p : Ent} {g : Nat} {nb : Bool} {ao : Option Addr} {n ca : Nat} (h : p.Ok w) (hb : Box w g nb ao n ca) (ho : Only g w w') : p.Ok w' := by
  obtain ⟨nb, ao, n, ca, h1, ⟨⟨zs, h2, h2'⟩, h2''⟩, h3, h4, h5⟩ := h
  exact ⟨nb, ao, n, ca, h1, ⟨⟨zs, h2.only_box hb ho, h2'⟩, h2''⟩, h3, h4, fun e => ⟨(h5 e).neg, (h5 e).sl.only_box hb ho⟩⟩

/-- a variable of this call's own is written -/
theorem St.stored {W w : World} {L : List Ent} {g : Nat} {nb : Bool} {ao : Option Addr} {n ca : Nat} (h : St W w L) (hb : Box w g nb ao n ca) (hg : W.heap.size ≤ g) (mb : Bool) (bo : Option Addr) (m cb : Nat) :
    St W ((w.setCell ⟨g, 0, none⟩ (.bool mb)).setCell ⟨g, 1, none⟩ (.slice bo m cb)) L :=
  ⟨Below.trans h.ext ((only_set2 w g _ _).below hg), fun p hp => (h.bag p hp).only_box hb (only_set2 w g _ _)⟩

end Go.Proofs.YtecaaklbhhjcjaaGreatDoor

namespace Go.Proofs.YtecaaklbhhjcjaaGreatDoor
open Go.RowKit

/-- how many bits a number has -/
def blen (a : Nat) : Nat := if a = 0 then 0 else Nat.log2 a + 1

theorem blen_of {a k : Nat} (h0 : 2 ^ k ≤ a) (h1 : a < 2 ^ (k + 1)) : blen a = k + 1 := by
  have ha : a ≠ 0 := by have := Nat.pos_of_ne_zero (show 2 ^ k ≠ 0 by simp); omega
  unfold blen
  rw [if_neg ha, (Nat.log2_eq_iff ha).2 ⟨h0, h1⟩]

theorem blen_mul {a : Nat} (h : a ≠ 0) (k : Nat) : blen (a * 2 ^ k) = blen a + k := by
  have h1 := Nat.log2_self_le h
  have h2 := @Nat.lt_log2_self a
  have e : blen a = Nat.log2 a + 1 := by unfold blen; rw [if_neg h]
  have hp : 0 < 2 ^ k := Nat.pos_of_ne_zero (by simp)
  rw [e, blen_of (k := Nat.log2 a + k)]
  · omega
  · rw [Nat.pow_add]; exact Nat.mul_le_mul_right _ h1
  · rw [show Nat.log2 a + k + 1 = Nat.log2 a + 1 + k by omega, Nat.pow_add]; exact Nat.mul_lt_mul_of_pos_right h2 hp

theorem blen_top {a m : Nat} (hm : (limbs a).length = m + 1) : ((m : Int) * 32 + (Lib.bitLen ((limbs a).getD m 0).toNat : Int)) = (blen a : Int) := by
  have h1 : a < 4294967296 ^ (m + 1) := (limbs_len_le a (m + 1)).1 (by omega)
  have h2 : 4294967296 ^ m ≤ a := by
    rcases Nat.lt_or_ge a (4294967296 ^ m) with h | h
    · have := (limbs_len_le a m).2 h; omega
    · exact h
  have hpm : 0 < 4294967296 ^ m := Nat.pos_of_ne_zero (by simp)
  have hd1 : a / 4294967296 ^ m < 4294967296 := by
    rw [Nat.div_lt_iff_lt_mul hpm, Nat.mul_comm, ← Nat.pow_succ]; exact h1
  have hd0 : 0 < a / 4294967296 ^ m := Nat.div_pos h2 hpm
  have ht : (limbs a).getD m 0 = ((a / 4294967296 ^ m : Nat) : Int) := by
    rw [limbs_at, Nat.mod_eq_of_lt hd1]
  rw [ht, Int.toNat_natCast]
  have hdm := Nat.div_add_mod a (4294967296 ^ m)
  have hml := Nat.mod_lt a hpm
  generalize htt : a / 4294967296 ^ m = t at *
  generalize a % 4294967296 ^ m = r at *
  obtain ⟨l, e, l0, l1⟩ := bitLen_spec t (by omega) (by omega)
  have hp : (4294967296 : Nat) ^ m = 2 ^ (m * 32) := by rw [Nat.mul_comm, Nat.pow_mul]
  rw [e, blen_of (k := m * 32 + l)]
  · omega
  · rw [Nat.pow_add, ← hp]
    have := Nat.mul_le_mul_left (4294967296 ^ m) l0
    omega
  · rw [Nat.add_assoc, Nat.pow_add, ← hp]
    have := Nat.mul_le_mul_left (4294967296 ^ m) (show t + 1 ≤ 2 ^ (l + 1) from l1)
    rw [Nat.mul_add, Nat.mul_one] at this
    omega

theorem bitLen_32 {x : Nat} (h : x < 4294967296) : Lib.bitLen x ≤ 32 := by
  by_cases h0 : x = 0
  · rw [h0, bitLen_zero]; omega
  · obtain ⟨l, e, l0, _⟩ := bitLen_spec x h0 (by omega)
    rcases Nat.lt_or_ge l 32 with hl | hl
    · omega
    · have := Nat.pow_le_pow_right (show 0 < 2 by omega) hl
      omega

set_option maxRecDepth 100000 in
set_option maxHeartbeats 1000000 in
theorem bitLen_any (a : Nat) (ao : Option Addr) (n ca : Nat) (w : World) (h : Sl w ao n ca (limbs a)) (hn : n ≤ 1000000000) :
    Calls Tryz.prog 204 #[.slice ao n ca] w fun e w' => e = .returned (.int .i64 (blen a)) ∧ w = w' := by
  rcases n with _ | m
  · have h0 : a = 0 := limbs_inj ((List.eq_nil_of_length_eq_zero h.len).trans limbs_zero.symm)
    go_enter Tryz.func204, Tryz.ntmps204
    go_wp2
    go_ret
    exact ⟨by rw [h0]; rfl, rfl⟩
  · have hb := blen_top h.len
    obtain ⟨b, off, rfl, hc⟩ := h.cells (by rw [h.len]; omega)
    have c1 := hc m (by rw [h.len]; omega)
    clear hc
    have hxr := (Wf.limbs a).getD m
    obtain ⟨x, hx⟩ : ∃ x, (limbs a).getD m 0 = x := ⟨_, rfl⟩
    rw [hx] at c1 hxr hb
    obtain ⟨x0, x1⟩ := hxr
    clear hx
    have HB := Lib.hid hb; clear hb
    have em : ((m : Int) + 1 == 0) = false := by apply beq_eq_false_iff_ne.2; omega
    have hl : (Lib.bitLen x.toNat : Int) ≤ 32 := by
      have := bitLen_32 (x := x.toNat) (by omega)
      omega
    go_enter Tryz.func204, Tryz.ntmps204
    go_wp2_with fail
    refine (Tryz.bits_Len32 x w x0 (by omega)).mono ?_
    rintro e w2 ⟨rfl, rfl⟩
    go_wp2
    go_ret
    exact ⟨by rw [← HB.out]; rfl, rfl⟩
end Go.Proofs.YtecaaklbhhjcjaaGreatDoor

namespace Go.Proofs.YtecaaklbhhjcjaaGreatDoor
open Go.RowKit

theorem limbs_len_toNat {zs : List Int} (h : Wf zs) : (limbs (num zs).toNat).length ≤ zs.length := by
  rw [tlen_eq h]; exact tlen_le _ _

set_option maxRecDepth 100000 in
set_option maxHeartbeats 1000000 in
theorem bitLenOut_any (nb : Bool) (ao : Option Addr) (n cap : Nat) (x : Int) (w : World) (h : Bg w nb ao n cap x) :
    Calls Tryz.prog 225 #[.agg #[.bool nb, .slice ao n cap]] w fun e w' => e = .returned (.int .i64 (blen x.natAbs)) ∧ Below w.heap.size w w' := by
  obtain ⟨⟨zs, hs, hx⟩, hsm⟩ := h
  have eax : (num zs).toNat = x.natAbs := by rw [hx, sgd_natAbs hs.wf]
  clear hx
  go_enter Tryz.func225, Tryz.ntmps225
  go_wp2_with fail
  obtain ⟨W, hW, hB, hbx, hsz⟩ := box_new w nb ao n cap
  rw [← hW]
  clear hW
  have hs0 := hs.below hB
  generalize hBe : w.heap.size = B at *
  have HBe := Lib.hid hBe; clear hBe
  have k0 := hbx.c0
  have k1 := hbx.c1
  go_wp2_with fail
  refine (trim_sl ao n cap zs W hs0).mono ?_
  rintro e w1 ⟨k, rfl, hs1, rfl⟩
  rw [eax] at hs1
  have hk : k ≤ n := by
    have h1 := limbs_len_toNat hs0.wf
    rw [hs0.len, eax, hs1.len] at h1
    exact h1
  go_wp2_with fail
  refine (bitLen_any x.natAbs ao k cap W hs1 (by omega)).mono ?_
  rintro e w1 ⟨rfl, rfl⟩
  go_wp2
  go_ret
  exact ⟨rfl, by rw [HBe.out]; exact hB⟩

set_option maxRecDepth 100000 in
set_option maxHeartbeats 1000000 in
theorem trailingZerosOut_any (nb : Bool) (ao : Option Addr) (n cap : Nat) (x : Int) (w : World) (h : Bg w nb ao n cap x) (hT : Table w) :
    Calls Tryz.prog 224 #[.agg #[.bool nb, .slice ao n cap]] w fun e w' => ∃ t : Nat, e = .returned (.int .i64 t) ∧ IsTz x.natAbs t ∧ Below w.heap.size w w' := by
  obtain ⟨⟨zs, hs, hx⟩, hsm⟩ := h
  have eax : (num zs).toNat = x.natAbs := by rw [hx, sgd_natAbs hs.wf]
  clear hx
  go_enter Tryz.func224, Tryz.ntmps224
  go_wp2_with fail
  obtain ⟨W, hW, hB, hbx, hsz⟩ := box_new w nb ao n cap
  rw [← hW]
  clear hW
  have hs0 := hs.below hB
  have HT := Lib.hid (hT.below hB)
  generalize hBe : w.heap.size = B at *
  have HBe := Lib.hid hBe; clear hBe
  have k0 := hbx.c0
  have k1 := hbx.c1
  clear hT
  go_wp2_with fail
  refine (trim_sl ao n cap zs W hs0).mono ?_
  rintro e w1 ⟨k, rfl, hs1, rfl⟩
  rw [eax] at hs1
  have hk : k ≤ n := by
    have h1 := limbs_len_toNat hs0.wf
    rw [hs0.len, eax, hs1.len] at h1
    exact h1
  go_wp2_with fail
  refine (trailingZeros_any x.natAbs ao k cap W hs1 (by omega) HT.out).mono ?_
  rintro e w1 ⟨t, rfl, ht, rfl⟩
  go_wp2
  go_ret
  exact ⟨t, rfl, ht, by rw [HBe.out]; exact hB⟩

theorem sgd_abs {nb : Bool} {zs : List Int} {x : Int} (hx : x = sgd nb zs) (h : Wf zs) : x = if nb then - (x.natAbs : Int) else x.natAbs := by
  have e := sgd_natAbs (nb := nb) h
  have h0 := num_nonneg h
  rw [hx, e]
  cases nb <;> simp [sgd] <;> omega

set_option maxRecDepth 100000 in
set_option maxHeartbeats 2000000 in
theorem shift_left (nb : Bool) (ao : Option Addr) (n cap : Nat) (x : Int) (k : Nat) (w : World) (h : Bg w nb ao n cap x) (hk : k ≤ 1048576) :
    Calls Tryz.prog 223 #[.agg #[.bool nb, .slice ao n cap], .int .i64 (k : Int)] w fun e w' => ∃ nr ro l cr, e = .returned (.tuple #[.agg #[.bool nr, .slice ro l cr], .int .i64 0]) ∧ Bn w' nr ro l cr (x * 2 ^ k) ∧ Below w.heap.size w w' := by
  obtain ⟨⟨zs, hs, hx⟩, hsm⟩ := h
  have eax : (num zs).toNat = x.natAbs := by rw [hx, sgd_natAbs hs.wf]
  have hx2 := Lib.hid (sgd_abs hx hs.wf)
  clear hx
  go_enter Tryz.func223, Tryz.ntmps223
  go_wp2_with fail
  obtain ⟨W, hW, hB, hbx, hrx, hz⟩ := boxes1 w nb ao n cap
  rw [← hW]
  clear hW
  have hs0 := hs.below hB
  generalize hBe : w.heap.size = B at *
  have HBe := Lib.hid hBe; clear hBe
  have k0 := hbx.c0
  have k1 := hbx.c1
  obtain ⟨m, hm, hs1, ht1⟩ := trim_zs hs0 _ eax
  have HT1 := Lib.hid ht1; clear ht1 eax
  go_wp2_with fail
  refine (HT1.out W hs0).mono ?_
  rintro e w1 ⟨rfl, rfl⟩
  clear hs hs0 HT1
  go_wp2_with fail
  go_region_held3 (fun w' => w'.cell? ⟨B, 0, none⟩ = some (.bool nb) ∧ w'.cell? ⟨B, 1, none⟩ = some (.slice ao n cap))
    (first | exact ⟨k0, k1⟩ | exact ⟨x2.c0, x2.c1⟩ | exact ⟨x3.c0, x3.c1⟩ | (refine ⟨?_, ?_⟩ <;> go_simp))
    (first
      | (go_at_call 131; refine (shiftUp_any x.natAbs k ao m cap _ (by exact hs1.below ((Below.refl _ _).drew)) (by omega) (by omega)).mono ?_; rintro e w2 ⟨so, sl, sc, rfl, hs2, hw2⟩; have x2 := (hbx.below ((Below.refl _ _).drew)).below hw2; have y2 := (hrx.below ((Below.refl _ _).drew)).below hw2)
      | (go_at_call 62; refine (signed_any _ _ _ _ _ _ (by exact hs2)).mono ?_; rintro e w3 ⟨ro, cr, rfl, hs3, hw3⟩; have x3 := x2.below hw3; have y3 := y2.below hw3; have q0 := y3.c0; have q1 := y3.c1; have q2 := y3.f 0; have q3 := y3.f 1; have e0 := x3.c0; have e1 := x3.c1))
  have z3 := y3.stored (nb && decide (0 < sl)) ro sl cr
  have z0 := z3.c0
  have z1 := z3.c1
  go_wp2
  refine bodyPost_ret (v := .tuple #[.agg #[.bool (nb && decide (0 < sl)), .slice ro sl cr], .int .i64 0]) (by simp [results, Tryz.results223, go_sem, z0, z1]) rfl ⟨_, ro, sl, cr, rfl, ?_, ?_⟩
  · refine bn_of (hs3.only_box y3 (only_set2 _ _ _ _)) rfl ?_
    conv => lhs; rw [hx2.out]
    cases nb <;> simp [Int.neg_mul]
  · obtain ⟨b1, l1⟩ := bnext hB (by omega) (Below.refl _ W).drew
    obtain ⟨b2, l2⟩ := bnext b1 l1 hw2
    obtain ⟨b3, l3⟩ := bnext b2 l2 hw3
    rw [HBe.out]
    exact b3.trans ((only_set2 _ _ _ _).below (by omega))

theorem down_plain {nb : Bool} {x : Int} {k : Nat} (hx : x = if nb then - (x.natAbs : Int) else x.natAbs) (h : x < 0 → x.natAbs % 2 ^ k = 0) :
    x / 2 ^ k = if nb then - ((x.natAbs / 2 ^ k : Nat) : Int) else ((x.natAbs / 2 ^ k : Nat) : Int) := by
  have hc : ((2 ^ k : Nat) : Int) = 2 ^ k := by rw [Int.natCast_pow]; rfl
  have hp : 0 < 2 ^ k := Nat.pos_of_ne_zero (by simp)
  rw [← hc]
  generalize 2 ^ k = p at *
  generalize x.natAbs = a at *
  cases nb with
  | false => simp only [Bool.false_eq_true, if_false] at hx ⊢; rw [hx, Int.natCast_ediv]
  | true =>
    simp only [if_true] at hx ⊢
    by_cases h0 : a = 0
    · subst h0; rw [hx]; simp
    · have hd : (p : Int) ∣ (a : Int) := Int.natCast_dvd_natCast.2 (Nat.dvd_of_mod_eq_zero (h (by omega)))
      rw [hx, Int.neg_ediv_of_dvd hd, Int.natCast_ediv]

theorem down_adj {x : Int} {k : Nat} (h0 : x < 0) (h : x.natAbs % 2 ^ k ≠ 0) : x / 2 ^ k = - ((x.natAbs / 2 ^ k + 1 : Nat) : Int) := by
  have hc : ((2 ^ k : Nat) : Int) = 2 ^ k := by rw [Int.natCast_pow]; rfl
  have hp : 0 < 2 ^ k := Nat.pos_of_ne_zero (by simp)
  have hx : x = - (x.natAbs : Int) := by omega
  rw [← hc]
  generalize 2 ^ k = p at *
  generalize x.natAbs = a at *
  have hdm := Nat.div_add_mod a p
  have hlt := Nat.mod_lt a hp
  generalize a / p = q at *
  generalize a % p = r at *
  have e : x = (p - r : Int) + (-(q + 1 : Nat) : Int) * p := by
    rw [hx, ← hdm]
    push_cast
    rw [Int.neg_mul, Int.add_mul, Int.one_mul, Int.mul_comm (p : Int)]
    omega
  rw [e, Int.add_mul_ediv_right _ _ (by omega), Int.ediv_eq_zero_of_lt (by omega) (by omega)]
  omega

set_option maxRecDepth 100000 in
set_option maxHeartbeats 4000000 in
theorem shift_right (nb : Bool) (ao : Option Addr) (n cap : Nat) (x : Int) (k : Nat) (w : World) (h : Bg w nb ao n cap x) (hk : k ≤ 1048576) (hk0 : 0 < k) (hT : Table w) :
    Calls Tryz.prog 223 #[.agg #[.bool nb, .slice ao n cap], .int .i64 (-(k : Int))] w fun e w' => ∃ nr ro l cr, e = .returned (.tuple #[.agg #[.bool nr, .slice ro l cr], .int .i64 0]) ∧ Bn w' nr ro l cr (x / 2 ^ k) ∧ Below w.heap.size w w' := by
  have hbg := h
  obtain ⟨⟨zs, hs, hx⟩, hsm⟩ := h
  have eax : (num zs).toNat = x.natAbs := by rw [hx, sgd_natAbs hs.wf]
  have hx2 := Lib.hid (sgd_abs hx hs.wf)
  clear hx
  go_enter Tryz.func223, Tryz.ntmps223
  go_wp2_with fail
  obtain ⟨W, hW, hB, hbx, hrx, hz⟩ := boxes1 w nb ao n cap
  rw [← hW]
  clear hW
  have hs0 := hs.below hB
  have hbg0 := hbg.below hB
  have HT := Lib.hid (hT.below hB)
  generalize hBe : w.heap.size = B at *
  have HBe := Lib.hid hBe; clear hBe
  have k0 := hbx.c0
  have k1 := hbx.c1
  obtain ⟨m, hm, hs1, ht1⟩ := trim_zs hs0 _ eax
  have HT1 := Lib.hid ht1; clear ht1 eax
  go_wp2_with fail
  refine (HT1.out W hs0).mono ?_
  rintro e w1 ⟨rfl, rfl⟩
  clear hs hs0 HT1 hT hbg
  go_wp2_with fail
  refine (shiftDown_any x.natAbs k ao m cap _ hs1 (by omega) (by omega)).mono ?_
  rintro e w2 ⟨so, sl, sc, rfl, hs2, hw2⟩
  have x2 := hbx.below hw2
  have y2 := hrx.below hw2
  have hs12 := hs1.below hw2
  have hbg2 := hbg0.below hw2
  have HT2 := Lib.hid (HT.out.below hw2)
  obtain ⟨b2, l2⟩ := bnext hB (by omega) hw2
  have hsz2 := hw2.size
  clear k0 k1 hbx hrx hs1 hbg0 HT hB hw2
  have k0 := x2.c0
  have k1 := x2.c1
  go_wp2_with fail
  refine (sign_any nb ao n cap x w2 hbg2).mono ?_
  rintro e w3 ⟨rfl, hw3⟩
  have x3 := x2.below hw3
  have y3 := y2.below hw3
  have hs13 := hs12.below hw3
  have hs23 := hs2.below hw3
  have HT3 := Lib.hid (HT2.out.below hw3)
  obtain ⟨b3, l3⟩ := bnext b2 l2 hw3
  have hsz3 := hw3.size
  clear k0 k1 x2 y2 hs12 hs2 HT2 hw3 b2 l2 hbg2
  have k0 := x3.c0
  have k1 := x3.c1
  by_cases hneg : x < 0
  · have hsg : sgn3 x 0 = -1 := by simp [sgn3, hneg]
    rw [hsg]
    have HNEG := Lib.hid hneg; clear hneg hsg
    go_wp2_with fail
    refine (trailingZeros_any x.natAbs ao m cap w3 hs13 (by omega) HT3.out).mono ?_
    rintro e w4 ⟨t, rfl, ht, rfl⟩
    have hdv := ht.dvd (by have := HNEG.out; omega) k
    have HDV := Lib.hid hdv; clear hdv ht
    by_cases hlt : t < k
    · have hltz : (t : Int) < (k : Int) := by omega
      have hmod := HDV.out.1 hlt
      have HMOD := Lib.hid hmod; clear hmod HDV hlt
      go_wp2_with fail
      have hone : Blk (w3.alloc (.cells #[.int .u32 1] 63)) w3.heap.size [1] := heap_alloc_new w3 _
      have hbw := (Below.refl w3.heap.size w3).alloc (Nat.le_refl _) (.cells #[.int .u32 1] 63)
      have hl1 : limbs 1 = [1] := by rw [limbs_pos (by omega), limbs_zero]; rfl
      have hsone := hone.sl (n := 1) (cap := 1) (Wf.cons (by omega) Wf.nil) rfl (by omega) (Nat.le_refl _)
      rw [← hl1] at hsone
      have hsl : sl ≤ m := by
        have h1 := limbs_mono (Nat.div_le_self x.natAbs (2 ^ k))
        rw [hs13.len, hs23.len] at h1
        exact h1
      refine (plus_any _ _ _ _ _ _ _ _ _ (hs23.below hbw) hsone (by omega) (by omega)).mono ?_
      rintro e w4 ⟨qo, qk, qc, rfl, hs4, hw4⟩
      have hw4' := hbw.trans (hw4.mono (by simp))
      have x4 := x3.below hw4'
      have y4 := y3.below hw4'
      obtain ⟨b4, l4⟩ := bnext b3 l3 hw4'
      have hsz4 := hw4'.size
      clear k0 k1 x3 y3 hs13 hs23 hbw hone hsone hl1 hw4 hw4' b3 l3 HT3
      have k0 := x4.c0
      have k1 := x4.c1
      have hnb : nb = true := by
        have h1 := HNEG.out
        have h2 := hx2.out
        cases nb
        · simp at h2; omega
        · rfl
      subst hnb
      go_wp2_with fail
      refine (signed_any _ _ _ _ _ _ hs4).mono ?_
      rintro e w5 ⟨ro, cr, rfl, hs5, hw5⟩
      have y5 := y4.below hw5
      obtain ⟨b5, l5⟩ := bnext b4 l4 hw5
      clear k0 k1
      have q0 := y5.c0
      have q1 := y5.c1
      have q2 := y5.f 0
      have q3 := y5.f 1
      have z5 := y5.stored (true && decide (0 < qk)) ro qk cr
      have z0 := z5.c0
      have z1 := z5.c1
      have hres := bn_of (x := x / 2 ^ k) (nb := true) (hs5.only_box y5 (only_set2 w5 (B + 1) (.bool (true && decide (0 < qk))) (.slice ro qk cr))) rfl (by rw [down_adj HNEG.out HMOD.out]; simp)
      have HRES := Lib.hid hres; clear hres
      have hbl := b5.trans ((only_set2 w5 (B + 1) (.bool (true && decide (0 < qk))) (.slice ro qk cr)).below (Nat.le_succ B))
      simp only [Bool.true_and] at z0 z1 HRES hbl
      go_wp2
      refine bodyPost_ret (v := .tuple #[.agg #[.bool (decide (0 < qk)), .slice ro qk cr], .int .i64 0]) (by simp [results, Tryz.results223, go_sem, z0, z1]) rfl ⟨_, ro, qk, cr, rfl, HRES.out, ?_⟩
      rw [HBe.out]; exact hbl
    · have hltz : ¬ (t : Int) < (k : Int) := by omega
      have hmod : x.natAbs % 2 ^ k = 0 := by
        rcases Nat.eq_zero_or_pos (x.natAbs % 2 ^ k) with h | h
        · exact h
        · exact absurd (HDV.out.2 (by omega)) hlt
      have HMOD := Lib.hid hmod; clear hmod HDV hlt
      go_wp2_with fail
      refine (signed_any _ _ _ _ _ _ hs23).mono ?_
      rintro e w5 ⟨ro, cr, rfl, hs5, hw5⟩
      have y5 := y3.below hw5
      obtain ⟨b5, l5⟩ := bnext b3 l3 hw5
      clear k0 k1
      have q0 := y5.c0
      have q1 := y5.c1
      have q2 := y5.f 0
      have q3 := y5.f 1
      have z5 := y5.stored (nb && decide (0 < sl)) ro sl cr
      have z0 := z5.c0
      have z1 := z5.c1
      have hres := bn_of (x := x / 2 ^ k) (nb := nb) (hs5.only_box y5 (only_set2 w5 (B + 1) (.bool (nb && decide (0 < sl))) (.slice ro sl cr))) rfl (down_plain hx2.out (fun _ => HMOD.out))
      have HRES := Lib.hid hres; clear hres
      have hbl := b5.trans ((only_set2 w5 (B + 1) (.bool (nb && decide (0 < sl))) (.slice ro sl cr)).below (Nat.le_succ B))
      go_wp2
      refine bodyPost_ret (v := .tuple #[.agg #[.bool (nb && decide (0 < sl)), .slice ro sl cr], .int .i64 0]) (by simp [results, Tryz.results223, go_sem, z0, z1]) rfl ⟨_, ro, sl, cr, rfl, HRES.out, ?_⟩
      rw [HBe.out]; exact hbl
  · have hsg : 0 ≤ sgn3 x 0 := sgn3_nonneg (by omega)
    generalize sgn3 x 0 = s at *
    have HNEG := Lib.hid hneg; clear hneg
    go_wp2_with fail
    refine (signed_any _ _ _ _ _ _ hs23).mono ?_
    rintro e w5 ⟨ro, cr, rfl, hs5, hw5⟩
    have y5 := y3.below hw5
    obtain ⟨b5, l5⟩ := bnext b3 l3 hw5
    clear k0 k1
    have q0 := y5.c0
    have q1 := y5.c1
    have q2 := y5.f 0
    have q3 := y5.f 1
    have z5 := y5.stored (nb && decide (0 < sl)) ro sl cr
    have z0 := z5.c0
    have z1 := z5.c1
    have hres := bn_of (x := x / 2 ^ k) (nb := nb) (hs5.only_box y5 (only_set2 w5 (B + 1) (.bool (nb && decide (0 < sl))) (.slice ro sl cr))) rfl (down_plain hx2.out (fun h => absurd h (by have := HNEG.out; omega)))
    have HRES := Lib.hid hres; clear hres
    have hbl := b5.trans ((only_set2 w5 (B + 1) (.bool (nb && decide (0 < sl))) (.slice ro sl cr)).below (Nat.le_succ B))
    go_wp2
    refine bodyPost_ret (v := .tuple #[.agg #[.bool (nb && decide (0 < sl)), .slice ro sl cr], .int .i64 0]) (by simp [results, Tryz.results223, go_sem, z0, z1]) rfl ⟨_, ro, sl, cr, rfl, HRES.out, ?_⟩
    rw [HBe.out]; exact hbl
end Go.Proofs.YtecaaklbhhjcjaaGreatDoor
