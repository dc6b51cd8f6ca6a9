import Derived.Test.YtlpclahlolhjfaaGreatDoorMoRlU8
import Derived.Test.YtlpclahlolhjfaaGreatDoorMoRlU6
import Derived.Test.YtlpclahlolhjfaaGreatDoorMoRlU0
namespace Go.Proofs.YtlpclahlolhjfaaGreatDoor
open Go.RowKit

/-- what divide gives for a and b -/
def DivSays (a b : Nat) : Prop := ∀ (ao bo : Option Addr) (n m ca cb : Nat) (w : World), Sl w ao n ca (limbs a) → Sl w bo m cb (limbs b) → n ≤ 100000000 → m ≤ 1000000000 →
    Calls Tryz.prog 116 #[.slice ao n ca, .slice bo m cb] w fun e w' => ∃ qo qk qc ro rk rc, e = .returned (.tuple #[.slice qo qk qc, .slice ro rk rc]) ∧
      Sl w' qo qk qc (limbs (a / b)) ∧ Sl w' ro rk rc (limbs (a % b)) ∧ Below w.heap.size w w'

theorem boxes3 (w : World) (nb : Bool) (ao : Option Addr) (n cap : Nat) (mb : Bool) (bo : Option Addr) (m cb : Nat) :
    ∃ W, W = (((w.alloc (.cells #[.bool nb, .slice ao n cap] 27)).alloc (.cells #[.bool mb, .slice bo m cb] 27)).alloc (.cells #[.bool false, .slice none 0 0] 27)).alloc (.cells #[.bool false, .slice none 0 0] 27) ∧ Below w.heap.size w W ∧
      Box W w.heap.size nb ao n cap ∧ Box W (w.heap.size + 1) mb bo m cb ∧ Box W (w.heap.size + 1 + 1) false none 0 0 ∧ Box W (w.heap.size + 1 + 1 + 1) false none 0 0 ∧ w.heap.size + 4 ≤ W.heap.size := by
  obtain ⟨W, rfl, h1, h2, h3, h4, h5⟩ := boxes2 w nb ao n cap mb bo m cb
  have hn := Box.new (((w.alloc (.cells #[.bool nb, .slice ao n cap] 27)).alloc (.cells #[.bool mb, .slice bo m cb] 27)).alloc (.cells #[.bool false, .slice none 0 0] 27)) false none 0 0
  have hb := (Below.refl (((w.alloc (.cells #[.bool nb, .slice ao n cap] 27)).alloc (.cells #[.bool mb, .slice bo m cb] 27)).alloc (.cells #[.bool false, .slice none 0 0] 27)).heap.size _).alloc (Nat.le_refl _) (.cells #[.bool false, .slice none 0 0] 27)
  refine ⟨_, rfl, h1.trans (hb.mono (by omega)), h2.below hb, h3.below hb, h4.below hb, by simpa using hn, by simp⟩

theorem divmod_plain {nb mb : Bool} {zs ys : List Int} {x y : Int} (hz : Wf zs) (hw : Wf ys) (hx : x = sgd nb zs) (hy : y = sgd mb ys) (h0 : y ≠ 0) (hnr : nb = true → x.natAbs % y.natAbs = 0) :
    x / y = (if (nb != mb) then - (((num zs).toNat / (num ys).toNat : Nat) : Int) else (((num zs).toNat / (num ys).toNat : Nat) : Int)) ∧ x % y = (((num zs).toNat % (num ys).toNat : Nat) : Int) := by
  have a := num_nonneg hz
  have b := num_nonneg hw
  have ex : (num zs).toNat = x.natAbs := by rw [hx, sgd_natAbs hz]
  have ey : (num ys).toNat = y.natAbs := by rw [hy, sgd_natAbs hw]
  rw [ex, ey]
  have hpos : (0 : Int) < num ys := by
    rcases Int.lt_or_eq_of_le b with h | h
    · exact h
    · exfalso; apply h0; rw [hy]; unfold sgd; rw [← h]; cases mb <;> simp
  rw [← ex, ← ey] at hnr ⊢
  clear ex ey h0
  unfold sgd at hx hy
  generalize num zs = p at *
  generalize num ys = q at *
  obtain ⟨p', rfl⟩ := Int.eq_ofNat_of_zero_le a
  obtain ⟨q', rfl⟩ := Int.eq_ofNat_of_zero_le b
  simp only [Int.toNat_natCast] at hnr ⊢
  rw [Int.natCast_ediv, Int.natCast_emod]
  cases nb with
  | false =>
    simp only [Bool.false_eq_true, if_false] at hx
    cases mb with
    | false => simp only [Bool.false_eq_true, if_false] at hy; rw [hx, hy]; simp
    | true => simp only [if_true] at hy; rw [hx, hy, Int.ediv_neg, Int.emod_neg]; simp
  | true =>
    simp only [if_true] at hx
    have hd : (q' : Int) ∣ (p' : Int) := by
      have := Nat.dvd_of_mod_eq_zero (hnr rfl)
      exact Int.natCast_dvd_natCast.2 this
    have h1 : (-(p' : Int)) / q' = - ((p' : Int) / q') := Int.neg_ediv_of_dvd hd
    have h2 : (-(p' : Int)) % q' = 0 := Int.emod_eq_zero_of_dvd (Int.dvd_neg.2 hd)
    have h3 : (p' : Int) % q' = 0 := Int.emod_eq_zero_of_dvd hd
    cases mb with
    | false => simp only [Bool.false_eq_true, if_false] at hy; rw [hx, hy, h1, h2, h3]; simp
    | true => simp only [if_true] at hy; rw [hx, hy, Int.ediv_neg, Int.emod_neg, h1, h2, h3]; simp

/-- two integers are stored -/
theorem two_stored {w : World} {g h B : Nat} {nb mb : Bool} {ao bo : Option Addr} {n m ca cb : Nat} (hg : Box w g nb ao n ca) (hh : Box w h mb bo m cb) (hne : g ≠ h) (hBg : B ≤ g) (hBh : B ≤ h)
    (pb qb : Bool) (po qo : Option Addr) (pk qk pc qc : Nat) (P Q : List Int) (hp : Sl w po pk pc P) (hq : Sl w qo qk qc Q) :
    let W := (((w.setCell ⟨g, 0, none⟩ (.bool pb)).setCell ⟨g, 1, none⟩ (.slice po pk pc)).setCell ⟨h, 0, none⟩ (.bool qb)).setCell ⟨h, 1, none⟩ (.slice qo qk qc)
    Box W g pb po pk pc ∧ Box W h qb qo qk qc ∧ Sl W po pk pc P ∧ Sl W qo qk qc Q ∧ Below B w W := by
  have o1 := only_set2 w g (.bool pb) (.slice po pk pc)
  have g1 := hg.stored pb po pk pc
  have h1 := hh.only o1 (Ne.symm hne)
  have p1 := hp.only_box hg o1
  have q1 := hq.only_box hg o1
  have o2 := only_set2 ((w.setCell ⟨g, 0, none⟩ (.bool pb)).setCell ⟨g, 1, none⟩ (.slice po pk pc)) h (.bool qb) (.slice qo qk qc)
  exact ⟨g1.only o2 hne, h1.stored qb qo qk qc, p1.only_box h1 o2, q1.only_box h1 o2, (o1.below hBg).trans (o2.below hBh)⟩

theorem trim_zs {w : World} {ao : Option Addr} {n cap : Nat} {zs : List Int} (h : Sl w ao n cap zs) (a : Nat) (e : (num zs).toNat = a) :
    ∃ k, k ≤ n ∧ Sl w ao k cap (limbs a) ∧ ∀ W, Sl W ao n cap zs → Calls Tryz.prog 57 #[.slice ao n cap] W fun e w' => e = .returned (.slice ao k cap) ∧ W = w' := by
  subst e; exact trim_at _ _ _ _ _ h

theorem divmod_adj {mb : Bool} {zs ys : List Int} {x y : Int} (hz : Wf zs) (hw : Wf ys) (hx : x = sgd true zs) (hy : y = sgd mb ys) (h0 : y ≠ 0) (hnr : x.natAbs % y.natAbs ≠ 0) :
    x / y = (if (true != mb) then - (((num zs).toNat / (num ys).toNat + 1 : Nat) : Int) else (((num zs).toNat / (num ys).toNat + 1 : Nat) : Int)) ∧ x % y = (((num ys).toNat - (num zs).toNat % (num ys).toNat : Nat) : Int) := by
  have a := num_nonneg hz
  have b := num_nonneg hw
  have ex : (num zs).toNat = x.natAbs := by rw [hx, sgd_natAbs hz]
  have ey : (num ys).toNat = y.natAbs := by rw [hy, sgd_natAbs hw]
  have hpos : (num ys).toNat ≠ 0 := by
    rw [ey]; omega
  rw [← ex, ← ey] at hnr
  clear ex ey h0
  unfold sgd at hx hy
  generalize num zs = p at *
  generalize num ys = q at *
  obtain ⟨p', rfl⟩ := Int.eq_ofNat_of_zero_le a
  obtain ⟨q', rfl⟩ := Int.eq_ofNat_of_zero_le b
  simp only [Int.toNat_natCast] at hnr hpos ⊢
  simp only [if_true] at hx
  have hlt : p' % q' < q' := Nat.mod_lt _ (by omega)
  have hdm := Nat.div_add_mod p' q'
  have key : -(p' : Int) / q' = -((p' / q' + 1 : Nat) : Int) ∧ -(p' : Int) % q' = ((q' - p' % q' : Nat) : Int) := by
    refine (Int.ediv_emod_unique (by omega)).2 ⟨?_, by omega, by omega⟩
    have : (p' : Int) = q' * (p' / q' : Nat) + (p' % q' : Nat) := by rw [← Int.natCast_mul, ← Int.natCast_add, hdm]
    rw [Int.mul_neg, Int.natCast_add, Int.mul_add]
    omega
  cases mb with
  | false => simp only [Bool.false_eq_true, if_false] at hy; rw [hx, hy, key.1, key.2]; simp
  | true => simp only [if_true] at hy; rw [hx, hy, Int.ediv_neg, Int.emod_neg, key.1, key.2]; simp

set_option maxRecDepth 100000 in
set_option maxHeartbeats 4000000 in
theorem divMod_plain (nb mb : Bool) (ao : Option Addr) (n ca : Nat) (bo : Option Addr) (m cb : Nat) (x y : Int) (w : World) (ha : Bg w nb ao n ca x) (hb : Bg w mb bo m cb y) (hy0 : y ≠ 0) (hnl : n ≤ 100000000) (hd : DivSays x.natAbs y.natAbs)
    (hnr : nb = true → x.natAbs % y.natAbs = 0) :
    Calls Tryz.prog 88 #[.agg #[.bool nb, .slice ao n ca], .agg #[.bool mb, .slice bo m cb]] w fun e w' => ∃ qn qo qk qc rn ro rk rc, e = .returned (.tuple #[.agg #[.bool qn, .slice qo qk qc], .agg #[.bool rn, .slice ro rk rc], .int .i64 0]) ∧
      Bn w' qn qo qk qc (x / y) ∧ Bn w' rn ro rk rc (x % y) ∧ Below w.heap.size w w' := by
  obtain ⟨⟨zs, hs, hx⟩, hsm⟩ := ha
  obtain ⟨⟨ys, hu, hy⟩, hum⟩ := hb
  have eax : (num zs).toNat = x.natAbs := by rw [hx, sgd_natAbs hs.wf]
  have eay : (num ys).toNat = y.natAbs := by rw [hy, sgd_natAbs hu.wf]
  have hwz := hs.wf
  have hwy := hu.wf
  have hx' := Lib.hid hx; clear hx
  have hy' := Lib.hid hy; clear hy
  have HY0 := Lib.hid hy0; clear hy0
  have HNR := Lib.hid hnr; clear hnr
  have HD := Lib.hid hd; clear hd
  go_enter Tryz.func88, Tryz.ntmps88
  go_wp2_with fail
  obtain ⟨W, hW, hB, hbx, hby, hrx, hrz, hz⟩ := boxes3 w nb ao n ca mb bo m cb
  rw [← hW]
  clear hW
  have hs0 := hs.below hB
  have hu0 := hu.below hB
  generalize hBe : w.heap.size = B at *
  have HBe := Lib.hid hBe; clear hBe
  have hBelow := Lib.hid hB
  clear hs hu hB
  obtain ⟨k1, hk1, hs1, ht1⟩ := trim_zs hs0 _ eax
  obtain ⟨k2, hk2, hu1, ht2⟩ := trim_zs hu0 _ eay
  have hk20 : ((k2 : Int) == 0) = false := by
    apply beq_eq_false_iff_ne.2
    intro h
    have h0 : (limbs y.natAbs).length = 0 := by rw [hu1.len]; omega
    have := limbs_inj ((List.eq_nil_of_length_eq_zero h0).trans limbs_zero.symm)
    exact HY0.out (by omega)
  have EAX := Lib.hid eax; clear eax
  have EAY := Lib.hid eay; clear eay
  have HT1 := Lib.hid ht1; clear ht1
  have HT2 := Lib.hid ht2; clear ht2
  have k0 := hbx.c0
  have k1' := hbx.c1
  have l0 := hby.c0
  have l1' := hby.c1
  go_quiet ((go_at_call 57; first | (with_reducible exact quiet_left (HT1.out _ (by exact hs0.drewN _))) | (with_reducible exact quiet_left (HT2.out _ (by exact hu0.drewN _)))))
  go_wp2_with fail
  obtain ⟨W2, hW2, hq⟩ := drewN_world W nq
  rw [hW2]
  clear hW2
  refine (HD.out _ _ _ _ _ _ W2 (hs1.below hq) (hu1.below hq) (by omega) (by omega)).mono ?_
  rintro e w2 ⟨qo, qk, qc, ro, rk, rc, rfl, hqs, hrs, hw2⟩
  obtain ⟨b1, z1⟩ := bnext hBelow.out (by omega) hq
  obtain ⟨b2, z2⟩ := bnext b1 z1 hw2
  have x2 := (hbx.below hq).below hw2
  have y2 := (hby.below hq).below hw2
  have p2 := (hrx.below hq).below hw2
  have r2 := (hrz.below hq).below hw2
  have b2' := Lib.hid b2
  have hsz : B + 4 ≤ w2.heap.size := by have := hq.size; have := hw2.size; omega
  clear hs0 hu0 hs1 hu1 hbx hby hrx hrz hBelow hq hw2 b1 z1 b2 z2 k0 k1' l0 l1' HT1 HT2 HD
  have k0 := x2.c0
  have l0 := y2.c0
  have hrk : nb = true → (rk : Int) ≤ 0 := by
    intro h
    have := HNR.out h
    have hl := hrs.len
    rw [this, limbs_zero] at hl
    simp at hl; omega
  have HQR := Lib.hid (divmod_plain (nb := nb) (mb := mb) hwz hwy hx'.out hy'.out HY0.out HNR.out)
  rw [EAX.out, EAY.out] at HQR
  cases nb
  case true =>
    have hrk0 := hrk rfl
    clear hrk
    go_wp2_with fail
    refine (signed_any _ _ _ _ _ _ hqs).mono ?_
    rintro e w3 ⟨so, sc, rfl, hs3, hw3⟩
    have hr3 := hrs.below hw3
    have p3 := p2.below hw3
    have r3 := r2.below hw3
    obtain ⟨b3, z3⟩ := bnext b2'.out (by omega) hw3
    have hsz3 := hw3.size
    clear k0 l0 x2 y2 hqs hrs hw3
    go_wp2_with fail
    refine (signed_any _ _ _ _ _ _ hr3).mono ?_
    rintro e w4 ⟨so', sc', rfl, hs4, hw4⟩
    have hq4 := hs3.below hw4
    have p4 := p3.below hw4
    have r4 := r3.below hw4
    obtain ⟨b4, z4⟩ := bnext b3 z3 hw4
    have hsz4 := hw4.size
    clear hw4 hs3 hr3 p3 r3 b3 z3 p2 r2
    have q0 := p4.c0
    have q1 := p4.c1
    have q2 := p4.f 0
    have q3 := p4.f 1
    have t0 := r4.c0
    have t1 := r4.c1
    have t2 := r4.f 0
    have t3 := r4.f 1
    obtain ⟨g5, h5, p5, s5, b5⟩ := two_stored p4 r4 (by omega) (B := B) (by omega) (by omega) (!mb && decide (0 < qk)) false so so' qk rk sc sc' _ _ hq4 hs4
    have u0 := g5.c0
    have u1 := g5.c1
    have u2 := h5.c0
    have u3 := h5.c1
    go_wp2
    refine bodyPost_ret (v := .tuple #[.agg #[.bool (!mb && decide (0 < qk)), .slice so qk sc], .agg #[.bool false, .slice so' rk sc'], .int .i64 0]) (by simp [results, Tryz.results88, go_sem, u0, u1, u2, u3]) rfl ⟨_, so, qk, sc, _, so', rk, sc', rfl, ?_, ?_, ?_⟩
    · exact bn_of p5 rfl (by rw [HQR.out.1]; cases mb <;> rfl)
    · exact bn_of (nb := false) s5 rfl (by rw [HQR.out.2]; rfl)
    · rw [HBe.out]; exact b4.trans b5
  case false =>
    clear hrk
    go_wp2_with fail
    refine (signed_any _ _ _ _ _ _ hqs).mono ?_
    rintro e w3 ⟨so, sc, rfl, hs3, hw3⟩
    have hr3 := hrs.below hw3
    have p3 := p2.below hw3
    have r3 := r2.below hw3
    obtain ⟨b3, z3⟩ := bnext b2'.out (by omega) hw3
    have hsz3 := hw3.size
    clear k0 l0 x2 y2 hqs hrs hw3
    go_wp2_with fail
    refine (signed_any _ _ _ _ _ _ hr3).mono ?_
    rintro e w4 ⟨so', sc', rfl, hs4, hw4⟩
    have hq4 := hs3.below hw4
    have p4 := p3.below hw4
    have r4 := r3.below hw4
    obtain ⟨b4, z4⟩ := bnext b3 z3 hw4
    have hsz4 := hw4.size
    clear hw4 hs3 hr3 p3 r3 b3 z3 p2 r2
    have q0 := p4.c0
    have q1 := p4.c1
    have q2 := p4.f 0
    have q3 := p4.f 1
    have t0 := r4.c0
    have t1 := r4.c1
    have t2 := r4.f 0
    have t3 := r4.f 1
    obtain ⟨g5, h5, p5, s5, b5⟩ := two_stored p4 r4 (by omega) (B := B) (by omega) (by omega) (mb && decide (0 < qk)) false so so' qk rk sc sc' _ _ hq4 hs4
    have u0 := g5.c0
    have u1 := g5.c1
    have u2 := h5.c0
    have u3 := h5.c1
    go_wp2
    refine bodyPost_ret (v := .tuple #[.agg #[.bool (mb && decide (0 < qk)), .slice so qk sc], .agg #[.bool false, .slice so' rk sc'], .int .i64 0]) (by simp [results, Tryz.results88, go_sem, u0, u1, u2, u3]) rfl ⟨_, so, qk, sc, _, so', rk, sc', rfl, ?_, ?_, ?_⟩
    · exact bn_of p5 rfl (by rw [HQR.out.1]; cases mb <;> rfl)
    · exact bn_of (nb := false) s5 rfl (by rw [HQR.out.2]; rfl)
    · rw [HBe.out]; exact b4.trans b5
set_option maxRecDepth 100000 in
set_option maxHeartbeats 4000000 in
theorem divMod_adj (mb : Bool) (ao : Option Addr) (n ca : Nat) (bo : Option Addr) (m cb : Nat) (x y : Int) (w : World) (ha : Bg w true ao n ca x) (hb : Bg w mb bo m cb y) (hy0 : y ≠ 0) (hnl : n ≤ 100000000) (hd : DivSays x.natAbs y.natAbs)
    (hnr : x.natAbs % y.natAbs ≠ 0) :
    Calls Tryz.prog 88 #[.agg #[.bool true, .slice ao n ca], .agg #[.bool mb, .slice bo m cb]] w fun e w' => ∃ qn qo qk qc rn ro rk rc, e = .returned (.tuple #[.agg #[.bool qn, .slice qo qk qc], .agg #[.bool rn, .slice ro rk rc], .int .i64 0]) ∧
      Bn w' qn qo qk qc (x / y) ∧ Bn w' rn ro rk rc (x % y) ∧ Below w.heap.size w w' := by
  obtain ⟨⟨zs, hs, hx⟩, hsm⟩ := ha
  obtain ⟨⟨ys, hu, hy⟩, hum⟩ := hb
  have eax : (num zs).toNat = x.natAbs := by rw [hx, sgd_natAbs hs.wf]
  have eay : (num ys).toNat = y.natAbs := by rw [hy, sgd_natAbs hu.wf]
  have hwz := hs.wf
  have hwy := hu.wf
  have hx' := Lib.hid hx; clear hx
  have hy' := Lib.hid hy; clear hy
  have HY0 := Lib.hid hy0; clear hy0
  have HNR := Lib.hid hnr; clear hnr
  have HD := Lib.hid hd; clear hd
  go_enter Tryz.func88, Tryz.ntmps88
  go_wp2_with fail
  obtain ⟨W, hW, hB, hbx, hby, hrx, hrz, hz⟩ := boxes3 w true ao n ca mb bo m cb
  rw [← hW]
  clear hW
  have hs0 := hs.below hB
  have hu0 := hu.below hB
  generalize hBe : w.heap.size = B at *
  have HBe := Lib.hid hBe; clear hBe
  have hBelow := Lib.hid hB
  clear hs hu hB
  obtain ⟨k1, hk1, hs1, ht1⟩ := trim_zs hs0 _ eax
  obtain ⟨k2, hk2, hu1, ht2⟩ := trim_zs hu0 _ eay
  have hk20 : ((k2 : Int) == 0) = false := by
    apply beq_eq_false_iff_ne.2
    intro h
    have h0 : (limbs y.natAbs).length = 0 := by rw [hu1.len]; omega
    have := limbs_inj ((List.eq_nil_of_length_eq_zero h0).trans limbs_zero.symm)
    exact HY0.out (by omega)
  have EAX := Lib.hid eax; clear eax
  have EAY := Lib.hid eay; clear eay
  have HT1 := Lib.hid ht1; clear ht1
  have HT2 := Lib.hid ht2; clear ht2
  have k0 := hbx.c0
  have k1' := hbx.c1
  have l0 := hby.c0
  have l1' := hby.c1
  go_quiet ((go_at_call 57; first | (with_reducible exact quiet_left (HT1.out _ (by exact hs0.drewN _))) | (with_reducible exact quiet_left (HT2.out _ (by exact hu0.drewN _)))))
  go_wp2_with fail
  obtain ⟨W2, hW2, hq⟩ := drewN_world W nq
  rw [hW2]
  clear hW2
  refine (HD.out _ _ _ _ _ _ W2 (hs1.below hq) (hu1.below hq) (by omega) (by omega)).mono ?_
  rintro e w2 ⟨qo, qk, qc, ro, rk, rc, rfl, hqs, hrs, hw2⟩
  obtain ⟨b1, z1⟩ := bnext hBelow.out (by omega) hq
  obtain ⟨b2, z2⟩ := bnext b1 z1 hw2
  have x2 := (hbx.below hq).below hw2
  have y2 := (hby.below hq).below hw2
  have p2 := (hrx.below hq).below hw2
  have r2 := (hrz.below hq).below hw2
  have b2' := Lib.hid b2
  have hu2q := (hu1.below hq).below hw2
  have hqk : qk ≤ n := by
    have h1 := limbs_mono (Nat.div_le_self x.natAbs y.natAbs)
    rw [hs1.len, hqs.len] at h1
    omega
  have hsz : B + 4 ≤ w2.heap.size := by have := hq.size; have := hw2.size; omega
  clear hs0 hu0 hs1 hu1 hbx hby hrx hrz hBelow hq hw2 b1 z1 b2 z2 k0 k1' l0 l1' HT1 HT2 HD
  have k0 := x2.c0
  have l0 := y2.c0
  have hrk0 : 0 < rk := by
    have hl := hrs.len
    apply Nat.pos_of_ne_zero
    intro h
    subst h
    have := limbs_inj ((List.eq_nil_of_length_eq_zero hl).trans limbs_zero.symm)
    exact HNR.out this
  have HQR := Lib.hid (divmod_adj (mb := mb) hwz hwy hx'.out hy'.out HY0.out HNR.out)
  rw [EAX.out, EAY.out] at HQR
  have hq2 := hu2q
  go_wp2_with fail
  have hone : Blk (w2.alloc (.cells #[.int .u32 1] 66)) w2.heap.size [1] := heap_alloc_new w2 _
  have hbw := (Below.refl w2.heap.size w2).alloc (Nat.le_refl _) (.cells #[.int .u32 1] 66)
  have hl1 : limbs 1 = [1] := by rw [limbs_pos (by omega), limbs_zero]; rfl
  have hsone := hone.sl (n := 1) (cap := 1) (Wf.cons (by omega) Wf.nil) rfl (by omega) (Nat.le_refl _)
  rw [← hl1] at hsone
  refine (plus_any _ _ _ _ _ _ _ _ _ (hqs.below hbw) hsone (by omega) (by omega)).mono ?_
  rintro e w5 ⟨qo', qk', qc', rfl, hqs5, hw5⟩
  have hw5' := hbw.trans (hw5.mono (by simp))
  have hrs5 := hrs.below hw5'
  have hu5 := hq2.below hw5'
  have p5' := p2.below hw5'
  have r5' := r2.below hw5'
  have x5 := x2.below hw5'
  have y5 := y2.below hw5'
  obtain ⟨b5', z5⟩ := bnext b2'.out (by omega) hw5'
  have hsz5 := hw5'.size
  clear hw5 hw5' hbw hone hsone hl1 hqs hrs hq2 hu2q p2 r2 x2 y2 k0 l0 b2'
  have k0 := x5.c0
  have l0 := y5.c0
  go_wp2_with fail
  refine (minus_any _ _ _ _ _ _ _ _ _ hu5 hrs5 (Nat.le_of_lt (Nat.mod_lt _ (by have := HY0.out; omega)))).mono ?_
  rintro e w2 ⟨ro', rk', rc', rfl, hrs, hw6⟩
  have hqs := hqs5.below hw6
  have p2 := p5'.below hw6
  have r2 := r5'.below hw6
  have x2 := x5.below hw6
  have y2 := y5.below hw6
  obtain ⟨b6, z6⟩ := bnext b5' z5 hw6
  have b2' := Lib.hid b6
  have hsz6 := hw6.size
  clear hw6 hqs5 hrs5 hu5 p5' r5' x5 y5 b5' z5 b6 z6 k0 l0
  have k0 := x2.c0
  have l0 := y2.c0
  go_wp2_with fail
  refine (signed_any _ _ _ _ _ _ hqs).mono ?_
  rintro e w3 ⟨so, sc, rfl, hs3, hw3⟩
  have hr3 := hrs.below hw3
  have p3 := p2.below hw3
  have r3 := r2.below hw3
  obtain ⟨b3, z3⟩ := bnext b2'.out (by omega) hw3
  have hsz3 := hw3.size
  clear k0 l0 x2 y2 hqs hrs hw3
  go_wp2_with fail
  refine (signed_any _ _ _ _ _ _ hr3).mono ?_
  rintro e w4 ⟨so', sc', rfl, hs4, hw4⟩
  have hq4 := hs3.below hw4
  have p4 := p3.below hw4
  have r4 := r3.below hw4
  obtain ⟨b4, z4⟩ := bnext b3 z3 hw4
  have hsz4 := hw4.size
  clear hw4 hs3 hr3 p3 r3 b3 z3 p2 r2
  have q0 := p4.c0
  have q1 := p4.c1
  have q2 := p4.f 0
  have q3 := p4.f 1
  have t0 := r4.c0
  have t1 := r4.c1
  have t2 := r4.f 0
  have t3 := r4.f 1
  obtain ⟨g5, h5, p5, s5, b5⟩ := two_stored p4 r4 (by omega) (B := B) (by omega) (by omega) (!mb && decide (0 < qk')) false so so' qk' rk' sc sc' _ _ hq4 hs4
  have u0 := g5.c0
  have u1 := g5.c1
  have u2 := h5.c0
  have u3 := h5.c1
  go_wp2
  refine bodyPost_ret (v := .tuple #[.agg #[.bool (!mb && decide (0 < qk')), .slice so qk' sc], .agg #[.bool false, .slice so' rk' sc'], .int .i64 0]) (by simp [results, Tryz.results88, go_sem, u0, u1, u2, u3]) rfl ⟨_, so, qk', sc, _, so', rk', sc', rfl, ?_, ?_, ?_⟩
  · exact bn_of p5 rfl (by rw [HQR.out.1]; cases mb <;> rfl)
  · exact bn_of (nb := false) s5 rfl (by rw [HQR.out.2]; rfl)
  · rw [HBe.out]; exact b4.trans b5

/-- quotient and remainder, the remainder not negative -/
theorem divMod_any (nb mb : Bool) (ao : Option Addr) (n ca : Nat) (bo : Option Addr) (m cb : Nat) (x y : Int) (w : World) (ha : Bg w nb ao n ca x) (hb : Bg w mb bo m cb y) (hy0 : y ≠ 0) (hnl : n ≤ 100000000) (hd : DivSays x.natAbs y.natAbs) :
    Calls Tryz.prog 88 #[.agg #[.bool nb, .slice ao n ca], .agg #[.bool mb, .slice bo m cb]] w fun e w' => ∃ qn qo qk qc rn ro rk rc, e = .returned (.tuple #[.agg #[.bool qn, .slice qo qk qc], .agg #[.bool rn, .slice ro rk rc], .int .i64 0]) ∧
      Bn w' qn qo qk qc (x / y) ∧ Bn w' rn ro rk rc (x % y) ∧ Below w.heap.size w w' := by
  by_cases h : nb = true → x.natAbs % y.natAbs = 0
  · exact divMod_plain nb mb ao n ca bo m cb x y w ha hb hy0 hnl hd h
  · have hn : nb = true := by
      cases nb with
      | true => rfl
      | false => exact absurd (fun e => by cases e) h
    subst hn
    exact divMod_adj mb ao n ca bo m cb x y w ha hb hy0 hnl hd (fun e => h (fun _ => e))
end Go.Proofs.YtlpclahlolhjfaaGreatDoor

namespace Go.Proofs.YtlpclahlolhjfaaGreatDoor

theorem lt_or_ge_int (a b : Int) : a < b ∨ b ≤ a := by omega

/-- the dividend u and the divisor v by their leading limbs: B is the weight of what is below -/
structure Lead (u v top w2 f s B : Int) : Prop where
  bpos : 0 < B
  u0 : (top * 4294967296 + w2) * B ≤ u
  u1 : u < (top * 4294967296 + w2 + 1) * B
  v0 : (f * 4294967296 + s) * B ≤ v
  v1 : v < (f * 4294967296 + s + 1) * B
  t0 : 0 ≤ top
  w0 : 0 ≤ w2
  w1 : w2 < 4294967296
  s0 : 0 ≤ s
  s1 : s < 4294967296
  f0 : 2147483648 ≤ f
  f1 : f < 4294967296
  uv : u < v * 4294967296

/-- q is not too small, and r is what it leaves of the first limbs -/
structure Est (u v top f q r : Int) : Prop where
  qr : q * f + r = top
  r0 : 0 ≤ r
  q0 : 0 ≤ q
  ge : u / v ≤ q

theorem Lead.vpos {u v top w2 f s B : Int} (h : Lead u v top w2 f s B) : 0 < v := by
  have h1 : 0 < (f * 4294967296 + s) * B := Int.mul_pos (by have := h.f0; have := h.s0; omega) h.bpos
  have := h.v0
  omega

theorem Lead.unonneg {u v top w2 f s B : Int} (h : Lead u v top w2 f s B) : 0 ≤ u := by
  have h1 : 0 ≤ (top * 4294967296 + w2) * B := Int.mul_nonneg (by have := h.t0; have := h.w0; omega) (Int.le_of_lt h.bpos)
  have := h.u0
  omega

theorem Lead.qlt {u v top w2 f s B : Int} (h : Lead u v top w2 f s B) : u / v < 4294967296 :=
  Int.ediv_lt_of_lt_mul h.vpos (by rw [Int.mul_comm]; exact h.uv)

theorem Lead.start {u v top w2 f s B : Int} (h : Lead u v top w2 f s B) : Est u v top f (top / f) (top % f) := by
  have hf : 0 < f := by have := h.f0; omega
  refine ⟨by rw [Int.mul_comm]; exact Int.mul_ediv_add_emod top f, Int.emod_nonneg _ (by omega), Int.ediv_nonneg h.t0 (by omega), ?_⟩
  rw [Int.le_ediv_iff_mul_le hf]
  have hQ : u / v * v ≤ u := Int.ediv_mul_le u (by have := h.vpos; omega)
  have hQ0 : 0 ≤ u / v := Int.ediv_nonneg h.unonneg (Int.le_of_lt h.vpos)
  generalize u / v = Q at *
  rcases lt_or_ge_int top (Q * f) with hlt | hle
  · exfalso
    -- Q v ≥ Q f R B ≥ (top + 1) R B > u
    have a1 : (top + 1) * (4294967296 * B) ≤ Q * f * (4294967296 * B) := Int.mul_le_mul_of_nonneg_right (by omega) (by have := h.bpos; omega)
    have a2 : Q * ((f * 4294967296 + s) * B) ≤ Q * v := Int.mul_le_mul_of_nonneg_left h.v0 hQ0
    have a3 : Q * ((f * 4294967296 + s) * B) = Q * f * (4294967296 * B) + Q * (s * B) := by
      rw [Int.add_mul, Int.mul_add, Int.mul_assoc f, ← Int.mul_assoc Q f]
    have a4 : 0 ≤ Q * (s * B) := Int.mul_nonneg hQ0 (Int.mul_nonneg h.s0 (Int.le_of_lt h.bpos))
    have a5 : (top * 4294967296 + w2 + 1) * B ≤ (top + 1) * (4294967296 * B) := by
      rw [← Int.mul_assoc]
      exact Int.mul_le_mul_of_nonneg_right (by have := h.w1; omega) (Int.le_of_lt h.bpos)
    have := h.u1
    omega
  · exact hle

theorem Lead.lower {u v top w2 f s B q r : Int} (h : Lead u v top w2 f s B) (e : Est u v top f q r) (hc : 4294967295 < q ∨ r * 4294967296 + w2 < q * s) : u / v ≤ q - 1 := by
  rcases hc with hc | hc
  · have := h.qlt; omega
  · have hge := e.ge
    have hQ : u / v * v ≤ u := Int.ediv_mul_le u (by have := h.vpos; omega)
    rcases lt_or_ge_int (u / v) q with h1 | h1
    · omega
    · exfalso
      have hq : u / v = q := by omega
      rw [hq] at hQ
      have a2 : q * ((f * 4294967296 + s) * B) ≤ q * v := Int.mul_le_mul_of_nonneg_left h.v0 e.q0
      have a3 : q * ((f * 4294967296 + s) * B) = (q * f * 4294967296 + q * s) * B := by
        rw [← Int.mul_assoc, Int.mul_add, ← Int.mul_assoc q f]
      have a4 : (top * 4294967296 + w2 + 1) * B ≤ (q * f * 4294967296 + q * s) * B := by
        refine Int.mul_le_mul_of_nonneg_right ?_ (Int.le_of_lt h.bpos)
        have := e.qr
        omega
      have := h.u1
      omega

theorem Lead.step {u v top w2 f s B q r : Int} (h : Lead u v top w2 f s B) (e : Est u v top f q r) (hc : 4294967295 < q ∨ r * 4294967296 + w2 < q * s) : Est u v top f (q - 1) (r + f) := by
  have h1 := h.lower e hc
  have hQ0 : 0 ≤ u / v := Int.ediv_nonneg h.unonneg (Int.le_of_lt h.vpos)
  refine ⟨?_, by have := e.r0; have := h.f0; omega, by omega, h1⟩
  have := e.qr
  rw [Int.sub_mul]
  omega

theorem Lead.out {u v top w2 f s B q r : Int} (h : Lead u v top w2 f s B) (e : Est u v top f q r) (hc : 4294967295 < r ∨ (q ≤ 4294967295 ∧ q * s ≤ r * 4294967296 + w2)) : q ≤ 4294967295 ∧ q ≤ u / v + 1 := by
  have hv := h.vpos
  -- the first limbs of u are less than those of v, times the base
  have htop : top ≤ f * 4294967296 + 4294967295 := by
    rcases lt_or_ge_int (f * 4294967296 + 4294967295) top with h1 | h1
    · exfalso
      have a1 : (f * 4294967296 + s + 1) * B * 4294967296 ≤ (top * 4294967296 + w2) * B := by
        rw [Int.mul_assoc, Int.mul_comm B, ← Int.mul_assoc]
        exact Int.mul_le_mul_of_nonneg_right (by have := h.s1; have := h.w0; omega) (Int.le_of_lt h.bpos)
      have a2 : v * 4294967296 ≤ (f * 4294967296 + s + 1) * B * 4294967296 := Int.mul_le_mul_of_nonneg_right (Int.le_of_lt h.v1) (by omega)
      have := h.u0
      have := h.uv
      omega
    · exact h1
  have hqr := e.qr
  have hr0 := e.r0
  have hq0 := e.q0
  have hf0 := h.f0
  have hs0 := h.s0
  have hs1 := h.s1
  have hw0 := h.w0
  have hq : q ≤ 4294967295 := by
    rcases hc with hc | hc
    · rcases lt_or_ge_int 4294967295 q with h1 | h1
      · exfalso
        have := Int.mul_le_mul_of_nonneg_right (show 4294967296 ≤ q by omega) (show 0 ≤ f by omega)
        omega
      · exact h1
    · exact hc.1
  refine ⟨hq, ?_⟩
  -- (q - 1) v ≤ u
  suffices hs : (q - 1) * v ≤ u by
    have := (Int.le_ediv_iff_mul_le hv).2 hs
    omega
  rcases lt_or_ge_int q 1 with h1 | h1
  · have : (q - 1) * v ≤ 0 := by
      have := Int.mul_le_mul_of_nonneg_right (show q - 1 ≤ 0 by omega) (Int.le_of_lt hv)
      omega
    have := h.unonneg
    omega
  · have hB := h.bpos
    rcases hc with hc | ⟨_, hc⟩
    · have b1 : (q - 1) * v ≤ (q - 1) * ((f * 4294967296 + s + 1) * B) := Int.mul_le_mul_of_nonneg_left (Int.le_of_lt h.v1) (by omega)
      have b2 : (q - 1) * ((f * 4294967296 + s + 1) * B) = ((q - 1) * (f * 4294967296 + s + 1)) * B := by rw [Int.mul_assoc]
      have b3 : (q - 1) * (f * 4294967296 + s + 1) ≤ top * 4294967296 + w2 := by
        have c1 : (q - 1) * (f * 4294967296 + s + 1) = q * f * 4294967296 - f * 4294967296 + (q - 1) * (s + 1) := by
          rw [Int.add_assoc, Int.mul_add, ← Int.mul_assoc, Int.sub_mul, Int.one_mul, Int.sub_mul]
        have c2 : (q - 1) * (s + 1) ≤ 4294967294 * (s + 1) := Int.mul_le_mul_of_nonneg_right (by omega) (by omega)
        omega
      have b4 := Int.mul_le_mul_of_nonneg_right b3 (Int.le_of_lt hB)
      have := h.u0
      omega
    · have b1 : q * v ≤ q * ((f * 4294967296 + s + 1) * B) := Int.mul_le_mul_of_nonneg_left (Int.le_of_lt h.v1) (by omega)
      have b2 : q * ((f * 4294967296 + s + 1) * B) = (q * f * 4294967296 + q * s) * B + q * B := by
        rw [← Int.mul_assoc, Int.mul_add, Int.mul_add, Int.mul_one, ← Int.mul_assoc q f, Int.add_mul (_ + _) q B]
      have b3 : (q * f * 4294967296 + q * s) * B ≤ (top * 4294967296 + w2) * B := by
        refine Int.mul_le_mul_of_nonneg_right ?_ (Int.le_of_lt hB)
        omega
      have b4 : q * B ≤ (f * 4294967296 + s) * B := Int.mul_le_mul_of_nonneg_right (by omega) (Int.le_of_lt hB)
      have := h.u0
      have := h.v0
      have e1 : (q - 1) * v = q * v - v := by rw [Int.sub_mul, Int.one_mul]
      omega

end Go.Proofs.YtlpclahlolhjfaaGreatDoor

namespace Go.Proofs.YtlpclahlolhjfaaGreatDoor
open Go.RowKit

theorem mul_bounds' {x y : Int} (x0 : 0 ≤ x) (x1 : x < 4294967296) (y0 : 0 ≤ y) (y1 : y < 4294967296) : 0 ≤ x * y ∧ x * y ≤ 18446744065119617025 := by
  refine ⟨Int.mul_nonneg x0 y0, ?_⟩
  have h1 : x * y ≤ 4294967295 * y := Int.mul_le_mul_of_nonneg_right (by omega) y0
  omega

set_option maxRecDepth 100000 in
set_option maxHeartbeats 4000000 in
theorem estimate_any (u v t1 t0 w2 f s B : Int) (g i m cap bd od cd : Nat) (w : World) (h : Lead u v (t1 * 4294967296 + t0) w2 f s B) (hm : m ≤ 1000000000)
    (a1 : 0 ≤ t1) (a2 : t1 < 4294967296) (b1 : 0 ≤ t0) (b2 : t0 < 4294967296)
    (c1 : w.cell? ⟨g, i + (m + 2), none⟩ = some (.int .u32 t1)) (c2 : w.cell? ⟨g, i + (m + 1), none⟩ = some (.int .u32 t0)) (c3 : w.cell? ⟨g, i + m, none⟩ = some (.int .u32 w2))
    (d1 : w.cell? ⟨bd, od + (m + 1), none⟩ = some (.int .u32 f)) (d2 : w.cell? ⟨bd, od + m, none⟩ = some (.int .u32 s)) :
    Calls Tryz.prog 144 #[.slice (some ⟨g, i, none⟩) (m + 2 + 1) cap, .slice (some ⟨bd, od, none⟩) (m + 2) cd] w fun e w' => ∃ q, e = .returned (.int .u32 q) ∧ (u / v ≤ q ∧ q ≤ u / v + 1 ∧ 0 ≤ q ∧ q ≤ 4294967295) ∧ ∃ n, w' = w.drewN n := by
  have hor := or_hl a1 a2 b1 b2
  have f0 := h.f0
  have f1 := h.f1
  have s0 := h.s0
  have s1 := h.s1
  have w0 := h.w0
  have w1 := h.w1
  have m0 : (0 : Int) ≤ (m : Int) := by omega
  have e1 : ((m + 2 : Nat) : Int) = (m : Int) + 2 := by omega
  have H := Lib.hid h; clear h
  go_enter Tryz.func144, Tryz.ntmps144
  go_wp2
  go_quiet (fail)
  go_wp2
  go_quiet (fail)
  have hst := H.out.start
  have ht0 : 0 ≤ t1 * 4294967296 + t0 := by omega
  have ht1 : t1 * 4294967296 + t0 < 18446744073709551616 := by omega
  clear hor c1 c2 d1 d2 b1 b2 a1 a2
  generalize t1 * 4294967296 + t0 = top at *
  have q0 : 0 ≤ top / f := hst.q0
  have q1 : top / f ≤ 8589934592 := by
    have h1 : top / f ≤ top / 2147483648 := by
      rw [Int.le_ediv_iff_mul_le (by omega)]
      have h2 : top / f * 2147483648 ≤ top / f * f := Int.mul_le_mul_of_nonneg_left f0 q0
      have h3 := hst.qr
      have h4 := hst.r0
      omega
    omega
  have r0 : 0 ≤ top % f := hst.r0
  have r1 : top % f < f := Int.emod_lt_of_pos _ (by omega)
  have HST := Lib.hid hst; clear hst
  go_wp2
  go_quiet (fail)
  rw [World.drewN_drewN, World.drewN_drewN]
  go_wp2
  go_loop [9, 10] (fun a b => ∃ q r : Int, a = .int .u64 q ∧ b = .int .u64 r ∧ q ≤ 8589934592 ∧ r ≤ 8589934592 ∧ Est u v top f q r) (fun _ b => (8589934592 - intOf b).toNat)
  case atStart => exact ⟨_, _, rfl, rfl, q1, by omega, HST.out⟩
  case round =>
    obtain ⟨q, r, rfl, rfl, hq1, hr1, hE⟩ := hrel
    have hq0 := hE.q0
    have hr0 := hE.r0
    have HE := Lib.hid hE; clear hE
    clear q0 q1 r0 r1
    by_cases hr : r ≤ 4294967295
    · have hor := or_hl hr0 (by omega) w0 w1
      by_cases hq : 4294967295 < q
      · have hpos : 0 < q := by omega
        go_wp2
        go_roundw
        case rel => exact ⟨q - 1, r + f, rfl, rfl, by omega, by omega, H.out.step HE.out (.inl hq)⟩
        case measure => simp [intOf] <;> omega
      · obtain ⟨p0, p1⟩ := mul_bounds' hq0 (by omega) s0 s1
        by_cases hqs : r * 4294967296 + w2 < q * s
        · have hst := H.out.step HE.out (.inr hqs)
          have hpos : 0 < q := by have := hst.q0; omega
          have HS := Lib.hid hst; clear hst
          go_wp2
          go_roundw
          case rel => exact ⟨q - 1, r + f, rfl, rfl, by omega, by omega, HS.out⟩
          case measure => simp [intOf] <;> omega
        · have ho := H.out.out HE.out (.inr ⟨by omega, by omega⟩)
          go_wp2
          go_ret
          exact ⟨q, rfl, ⟨HE.out.ge, ho.2, hq0, by omega⟩, _, rfl⟩
    · have ho := H.out.out HE.out (.inl (by omega))
      obtain ⟨o1, o2⟩ := ho
      go_wp2
      go_ret
      exact ⟨q, rfl, ⟨HE.out.ge, o2, hq0, o1⟩, _, rfl⟩
end Go.Proofs.YtlpclahlolhjfaaGreatDoor
