import Derived.Test.YthicfkeiggcjjaaGreatDoorEcDlU8
import Derived.Test.YthicfkeiggcjjaaGreatDoorEcDlU5
import Derived.Test.YthicfkeiggcjjaaGreatDoorEcDlU4
namespace Go.Proofs.YthicfkeiggcjjaaGreatDoor
open Go.RowKit

/-- what divide gives for a and b -/
def DivSays (a b : Nat) : Prop := ∀ (ao bo : Option Addr) (n m ca cb : Nat) (w : World), Sl w ao n ca (limbs a) → Sl w bo m cb (limbs b) → n ≤ 100000000 → m ≤ 1000000000 →
    Calls Tryz.prog 95 #[.slice ao n ca, .slice bo m cb] w fun e w' => ∃ qo qk qc ro rk rc, e = .returned (.tuple #[.slice qo qk qc, .slice ro rk rc]) ∧
      Sl w' qo qk qc (limbs (a / b)) ∧ Sl w' ro rk rc (limbs (a % b)) ∧ Below w.heap.size w w'

theorem boxes3 (w : World) (nb : Bool) (ao : Option Addr) (n cap : Nat) (mb : Bool) (bo : Option Addr) (m cb : Nat) :
    ∃ W, W = (((w.alloc (.cells #[.bool nb, .slice ao n cap] 52)).alloc (.cells #[.bool mb, .slice bo m cb] 52)).alloc (.cells #[.bool false, .slice none 0 0] 52)).alloc (.cells #[.bool false, .slice none 0 0] 52) ∧ Below w.heap.size w W ∧
      Box W w.heap.size nb ao n cap ∧ Box W (w.heap.size + 1) mb bo m cb ∧ Box W (w.heap.size + 1 + 1) false none 0 0 ∧ Box W (w.heap.size + 1 + 1 + 1) false none 0 0 ∧ w.heap.size + 4 ≤ W.heap.size := by
  obtain ⟨W, rfl, h1, h2, h3, h4, h5⟩ := boxes2 w nb ao n cap mb bo m cb
  have hn := Box.new (((w.alloc (.cells #[.bool nb, .slice ao n cap] 52)).alloc (.cells #[.bool mb, .slice bo m cb] 52)).alloc (.cells #[.bool false, .slice none 0 0] 52)) false none 0 0
  have hb := (Below.refl (((w.alloc (.cells #[.bool nb, .slice ao n cap] 52)).alloc (.cells #[.bool mb, .slice bo m cb] 52)).alloc (.cells #[.bool false, .slice none 0 0] 52)).heap.size _).alloc (Nat.le_refl _) (.cells #[.bool false, .slice none 0 0] 52)
  refine ⟨_, rfl, h1.trans (hb.mono (by omega)), h2.below hb, h3.below hb, h4.below hb, by simpa using hn, by simp⟩

theorem divmod_plain {nb mb : Bool} {zs ys : List Int} {x y : Int} (hz : Wf zs) (hw : Wf ys) (hx : x = sgd nb zs) (hy : y = sgd mb ys) (h0 : y ≠ 0) (hnr : nb = true → x.natAbs % y.natAbs = 0) :
    x / y = (if (nb != mb) then - (((num zs).toNat / (num ys).toNat : Nat) : Int) else (((num zs).toNat / (num ys).toNat : Nat) : Int)) ∧ x % y = (((num zs).toNat % (num ys).toNat : Nat) : Int) := by
  have a := num_nonneg hz
  have b := num_nonneg hw
  have ex : (num zs).toNat = x.natAbs := by rw [hx, sgd_natAbs hz]
  have ey : (num ys).toNat = y.natAbs := by rw [hy, sgd_natAbs hw]
  rw [ex, ey]
  have hpos : (0 : Int) < num ys := by
    rcases Int.lt_or_eq_of_le b with h | h
    · exact h
    · exfalso; apply h0; rw [hy]; unfold sgd; rw [← h]; cases mb <;> simp
  rw [← ex, ← ey] at hnr ⊢
  clear ex ey h0
  unfold sgd at hx hy
  generalize num zs = p at *
  generalize num ys = q at *
  obtain ⟨p', rfl⟩ := Int.eq_ofNat_of_zero_le a
  obtain ⟨q', rfl⟩ := Int.eq_ofNat_of_zero_le b
  simp only [Int.toNat_natCast] at hnr ⊢
  rw [Int.natCast_ediv, Int.natCast_emod]
  cases nb with
  | false =>
    simp only [Bool.false_eq_true, if_false] at hx
    cases mb with
    | false => simp only [Bool.false_eq_true, if_false] at hy; rw [hx, hy]; simp
    | true => simp only [if_true] at hy; rw [hx, hy, Int.ediv_neg, Int.emod_neg]; simp
  | true =>
    simp only [if_true] at hx
    have hd : (q' : Int) ∣ (p' : Int) := by
      have := Nat.dvd_of_mod_eq_zero (hnr rfl)
      exact Int.natCast_dvd_natCast.2 this
    have h1 : (-(p' : Int)) / q' = - ((p' : Int) / q') := Int.neg_ediv_of_dvd hd
    have h2 : (-(p' : Int)) % q' = 0 := Int.emod_eq_zero_of_dvd (Int.dvd_neg.2 hd)
    have h3 : (p' : Int) % q' = 0 := Int.emod_eq_zero_of_dvd hd
    cases mb with
    | false => simp only [Bool.false_eq_true, if_false] at hy; rw [hx, hy, h1, h2, h3]; simp
    | true => simp only [if_true] at hy; rw [hx, hy, Int.ediv_neg, Int.emod_neg, h1, h2, h3]; simp

/-- two integers are stored -/
theorem two_stored {w : World} {g h B : Nat} {nb mb : Bool} {ao bo : Option Addr} {n m ca cb : Nat} (hg : Box w g nb ao n ca) (hh : Box w h mb bo m cb) (hne : g ≠ h) (hBg : B ≤ g) (hBh : B ≤ h)
    (pb qb : Bool) (po qo : Option Addr) (pk qk pc qc : Nat) (P Q : List Int) (hp : Sl w po pk pc P) (hq : Sl w qo qk qc Q) :
    let W := (((w.setCell ⟨g, 0, none⟩ (.bool pb)).setCell ⟨g, 1, none⟩ (.slice po pk pc)).setCell ⟨h, 0, none⟩ (.bool qb)).setCell ⟨h, 1, none⟩ (.slice qo qk qc)
    Box W g pb po pk pc ∧ Box W h qb qo qk qc ∧ Sl W po pk pc P ∧ Sl W qo qk qc Q ∧ Below B w W := by
  have o1 := only_set2 w g (.bool pb) (.slice po pk pc)
  have g1 := hg.stored pb po pk pc
  have h1 := hh.only o1 (Ne.symm hne)
  have p1 := hp.only_box hg o1
  have q1 := hq.only_box hg o1
  have o2 := only_set2 ((w.setCell ⟨g, 0, none⟩ (.bool pb)).setCell ⟨g, 1, none⟩ (.slice po pk pc)) h (.bool qb) (.slice qo qk qc)
  exact ⟨g1.only o2 hne, h1.stored qb qo qk qc, p1.only_box h1 o2, q1.only_box h1 o2, (o1.below hBg).trans (o2.below hBh)⟩

theorem trim_zs {w : World} {ao : Option Addr} {n cap : Nat} {zs : List Int} (h : Sl w ao n cap zs) (a : Nat) (e : (num zs).toNat = a) :
    ∃ k, k ≤ n ∧ Sl w ao k cap (limbs a) ∧ ∀ W, Sl W ao n cap zs → Calls Tryz.prog 51 #[.slice ao n cap] W fun e w' => e = .returned (.slice ao k cap) ∧ W = w' := by
  subst e; exact trim_at _ _ _ _ _ h

theorem divmod_adj {mb : Bool} {zs ys : List Int} {x y : Int} (hz : Wf zs) (hw : Wf ys) (hx : x = sgd true zs) (hy : y = sgd mb ys) (h0 : y ≠ 0) (hnr : x.natAbs % y.natAbs ≠ 0) :
    x / y = (if (true != mb) then - (((num zs).toNat / (num ys).toNat + 1 : Nat) : Int) else (((num zs).toNat / (num ys).toNat + 1 : Nat) : Int)) ∧ x % y = (((num ys).toNat - (num zs).toNat % (num ys).toNat : Nat) : Int) := by
  have a := num_nonneg hz
  have b := num_nonneg hw
  have ex : (num zs).toNat = x.natAbs := by rw [hx, sgd_natAbs hz]
  have ey : (num ys).toNat = y.natAbs := by rw [hy, sgd_natAbs hw]
  have hpos : (num ys).toNat ≠ 0 := by
    rw [ey]; omega
  rw [← ex, ← ey] at hnr
  clear ex ey h0
  unfold sgd at hx hy
  generalize num zs = p at *
  generalize num ys = q at *
  obtain ⟨p', rfl⟩ := Int.eq_ofNat_of_zero_le a
  obtain ⟨q', rfl⟩ := Int.eq_ofNat_of_zero_le b
  simp only [Int.toNat_natCast] at hnr hpos ⊢
  simp only [if_true] at hx
  have hlt : p' % q' < q' := Nat.mod_lt _ (by omega)
  have hdm := Nat.div_add_mod p' q'
  have key : -(p' : Int) / q' = -((p' / q' + 1 : Nat) : Int) ∧ -(p' : Int) % q' = ((q' - p' % q' : Nat) : Int) := by
    refine (Int.ediv_emod_unique (by omega)).2 ⟨?_, by omega, by omega⟩
    have : (p' : Int) = q' * (p' / q' : Nat) + (p' % q' : Nat) := by rw [← Int.natCast_mul, ← Int.natCast_add, hdm]
    rw [Int.mul_neg, Int.natCast_add, Int.mul_add]
    omega
  cases mb with
  | false => simp only [Bool.false_eq_true, if_false] at hy; rw [hx, hy, key.1, key.2]; simp
  | true => simp only [if_true] at hy; rw [hx, hy, Int.ediv_neg, Int.emod_neg, key.1, key.2]; simp

set_option maxRecDepth 100000 in
set_option maxHeartbeats 4000000 in
theorem divMod_plain (nb mb : Bool) (ao : Option Addr) (n ca : Nat) (bo : Option Addr) (m cb : Nat) (x y : Int) (w : World) (ha : Bg w nb ao n ca x) (hb : Bg w mb bo m cb y) (hy0 : y ≠ 0) (hnl : n ≤ 100000000) (hd : DivSays x.natAbs y.natAbs)
    (hnr : nb = true → x.natAbs % y.natAbs = 0) :
    Calls Tryz.prog 84 #[.agg #[.bool nb, .slice ao n ca], .agg #[.bool mb, .slice bo m cb]] w fun e w' => ∃ qn qo qk qc rn ro rk rc, e = .returned (.tuple #[.agg #[.bool qn, .slice qo qk qc], .agg #[.bool rn, .slice ro rk rc], .int .i64 0]) ∧
      Bn w' qn qo qk qc (x / y) ∧ Bn w' rn ro rk rc (x % y) ∧ Below w.heap.size w w' := by
  obtain ⟨⟨zs, hs, hx⟩, hsm⟩ := ha
  obtain ⟨⟨ys, hu, hy⟩, hum⟩ := hb
  have eax : (num zs).toNat = x.natAbs := by rw [hx, sgd_natAbs hs.wf]
  have eay : (num ys).toNat = y.natAbs := by rw [hy, sgd_natAbs hu.wf]
  have hwz := hs.wf
  have hwy := hu.wf
  have hx' := Lib.hid hx; clear hx
  have hy' := Lib.hid hy; clear hy
  have HY0 := Lib.hid hy0; clear hy0
  have HNR := Lib.hid hnr; clear hnr
  have HD := Lib.hid hd; clear hd
  go_enter Tryz.func84, Tryz.ntmps84
  go_wp2_with fail
  obtain ⟨W, hW, hB, hbx, hby, hrx, hrz, hz⟩ := boxes3 w nb ao n ca mb bo m cb
  rw [← hW]
  clear hW
  have hs0 := hs.below hB
  have hu0 := hu.below hB
  generalize hBe : w.heap.size = B at *
  have HBe := Lib.hid hBe; clear hBe
  have hBelow := Lib.hid hB
  clear hs hu hB
  obtain ⟨k1, hk1, hs1, ht1⟩ := trim_zs hs0 _ eax
  obtain ⟨k2, hk2, hu1, ht2⟩ := trim_zs hu0 _ eay
  have hk20 : ((k2 : Int) == 0) = false := by
    apply beq_eq_false_iff_ne.2
    intro h
    have h0 : (limbs y.natAbs).length = 0 := by rw [hu1.len]; omega
    have := limbs_inj ((List.eq_nil_of_length_eq_zero h0).trans limbs_zero.symm)
    exact HY0.out (by omega)
  have EAX := Lib.hid eax; clear eax
  have EAY := Lib.hid eay; clear eay
  have HT1 := Lib.hid ht1; clear ht1
  have HT2 := Lib.hid ht2; clear ht2
  have k0 := hbx.c0
  have k1' := hbx.c1
  have l0 := hby.c0
  have l1' := hby.c1
  go_quiet ((go_at_call 51; first | (with_reducible exact quiet_left (HT1.out _ (by exact hs0.drewN _))) | (with_reducible exact quiet_left (HT2.out _ (by exact hu0.drewN _)))))
  go_wp2_with fail
  obtain ⟨W2, hW2, hq⟩ := drewN_world W nq
  rw [hW2]
  clear hW2
  refine (HD.out _ _ _ _ _ _ W2 (hs1.below hq) (hu1.below hq) (by omega) (by omega)).mono ?_
  rintro e w2 ⟨qo, qk, qc, ro, rk, rc, rfl, hqs, hrs, hw2⟩
  obtain ⟨b1, z1⟩ := bnext hBelow.out (by omega) hq
  obtain ⟨b2, z2⟩ := bnext b1 z1 hw2
  have x2 := (hbx.below hq).below hw2
  have y2 := (hby.below hq).below hw2
  have p2 := (hrx.below hq).below hw2
  have r2 := (hrz.below hq).below hw2
  have b2' := Lib.hid b2
  have hsz : B + 4 ≤ w2.heap.size := by have := hq.size; have := hw2.size; omega
  clear hs0 hu0 hs1 hu1 hbx hby hrx hrz hBelow hq hw2 b1 z1 b2 z2 k0 k1' l0 l1' HT1 HT2 HD
  have k0 := x2.c0
  have l0 := y2.c0
  have hrk : nb = true → (rk : Int) ≤ 0 := by
    intro h
    have := HNR.out h
    have hl := hrs.len
    rw [this, limbs_zero] at hl
    simp at hl; omega
  have HQR := Lib.hid (divmod_plain (nb := nb) (mb := mb) hwz hwy hx'.out hy'.out HY0.out HNR.out)
  rw [EAX.out, EAY.out] at HQR
  cases nb
  case true =>
    have hrk0 := hrk rfl
    clear hrk
    go_wp2_with fail
    refine (signed_any _ _ _ _ _ _ hqs).mono ?_
    rintro e w3 ⟨so, sc, rfl, hs3, hw3⟩
    have hr3 := hrs.below hw3
    have p3 := p2.below hw3
    have r3 := r2.below hw3
    obtain ⟨b3, z3⟩ := bnext b2'.out (by omega) hw3
    have hsz3 := hw3.size
    clear k0 l0 x2 y2 hqs hrs hw3
    go_wp2_with fail
    refine (signed_any _ _ _ _ _ _ hr3).mono ?_
    rintro e w4 ⟨so', sc', rfl, hs4, hw4⟩
    have hq4 := hs3.below hw4
    have p4 := p3.below hw4
    have r4 := r3.below hw4
    obtain ⟨b4, z4⟩ := bnext b3 z3 hw4
    have hsz4 := hw4.size
    clear hw4 hs3 hr3 p3 r3 b3 z3 p2 r2
    have q0 := p4.c0
    have q1 := p4.c1
    have q2 := p4.f 0
    have q3 := p4.f 1
    have t0 := r4.c0
    have t1 := r4.c1
    have t2 := r4.f 0
    have t3 := r4.f 1
    obtain ⟨g5, h5, p5, s5, b5⟩ := two_stored p4 r4 (by omega) (B := B) (by omega) (by omega) (!mb && decide (0 < qk)) false so so' qk rk sc sc' _ _ hq4 hs4
    have u0 := g5.c0
    have u1 := g5.c1
    have u2 := h5.c0
    have u3 := h5.c1
    go_wp2
    refine bodyPost_ret (v := .tuple #[.agg #[.bool (!mb && decide (0 < qk)), .slice so qk sc], .agg #[.bool false, .slice so' rk sc'], .int .i64 0]) (by simp [results, Tryz.results84, go_sem, u0, u1, u2, u3]) rfl ⟨_, so, qk, sc, _, so', rk, sc', rfl, ?_, ?_, ?_⟩
    · exact bn_of p5 rfl (by rw [HQR.out.1]; cases mb <;> rfl)
    · exact bn_of (nb := false) s5 rfl (by rw [HQR.out.2]; rfl)
    · rw [HBe.out]; exact b4.trans b5
  case false =>
    clear hrk
    go_wp2_with fail
    refine (signed_any _ _ _ _ _ _ hqs).mono ?_
    rintro e w3 ⟨so, sc, rfl, hs3, hw3⟩
    have hr3 := hrs.below hw3
    have p3 := p2.below hw3
    have r3 := r2.below hw3
    obtain ⟨b3, z3⟩ := bnext b2'.out (by omega) hw3
    have hsz3 := hw3.size
    clear k0 l0 x2 y2 hqs hrs hw3
    go_wp2_with fail
    refine (signed_any _ _ _ _ _ _ hr3).mono ?_
    rintro e w4 ⟨so', sc', rfl, hs4, hw4⟩
    have hq4 := hs3.below hw4
    have p4 := p3.below hw4
    have r4 := r3.below hw4
    obtain ⟨b4, z4⟩ := bnext b3 z3 hw4
    have hsz4 := hw4.size
    clear hw4 hs3 hr3 p3 r3 b3 z3 p2 r2
    have q0 := p4.c0
    have q1 := p4.c1
    have q2 := p4.f 0
    have q3 := p4.f 1
    have t0 := r4.c0
    have t1 := r4.c1
    have t2 := r4.f 0
    have t3 := r4.f 1
    obtain ⟨g5, h5, p5, s5, b5⟩ := two_stored p4 r4 (by omega) (B := B) (by omega) (by omega) (mb && decide (0 < qk)) false so so' qk rk sc sc' _ _ hq4 hs4
    have u0 := g5.c0
    have u1 := g5.c1
    have u2 := h5.c0
    have u3 := h5.c1
    go_wp2
    refine bodyPost_ret (v := .tuple #[.agg #[.bool (mb && decide (0 < qk)), .slice so qk sc], .agg #[.bool false, .slice so' rk sc'], .int .i64 0]) (by simp [results, Tryz.results84, go_sem, u0, u1, u2, u3]) rfl ⟨_, so, qk, sc, _, so', rk, sc', rfl, ?_, ?_, ?_⟩
    · exact bn_of p5 rfl (by rw [HQR.out.1]; cases mb <;> rfl)
    · exact bn_of (nb := false) s5 rfl (by rw [HQR.out.2]; rfl)
    · rw [HBe.out]; exact b4.trans b5
set_option maxRecDepth 100000 in
set_option maxHeartbeats 4000000 in
theorem divMod_adj (mb : Bool) (ao : Option Addr) (n ca : Nat) (bo : Option Addr) (m cb : Nat) (x y : Int) (w : World) (ha : Bg w true ao n ca x) (hb : Bg w mb bo m cb y) (hy0 : y ≠ 0) (hnl : n ≤ 100000000) (hd : DivSays x.natAbs y.natAbs)
    (hnr : x.natAbs % y.natAbs ≠ 0) :
    Calls Tryz.prog 84 #[.agg #[.bool true, .slice ao n ca], .agg #[.bool mb, .slice bo m cb]] w fun e w' => ∃ qn qo qk qc rn ro rk rc, e = .returned (.tuple #[.agg #[.bool qn, .slice qo qk qc], .agg #[.bool rn, .slice ro rk rc], .int .i64 0]) ∧
      Bn w' qn qo qk qc (x / y) ∧ Bn w' rn ro rk rc (x % y) ∧ Below w.heap.size w w' := by
  obtain ⟨⟨zs, hs, hx⟩, hsm⟩ := ha
  obtain ⟨⟨ys, hu, hy⟩, hum⟩ := hb
  have eax : (num zs).toNat = x.natAbs := by rw [hx, sgd_natAbs hs.wf]
  have eay : (num ys).toNat = y.natAbs := by rw [hy, sgd_natAbs hu.wf]
  have hwz := hs.wf
  have hwy := hu.wf
  have hx' := Lib.hid hx; clear hx
  have hy' := Lib.hid hy; clear hy
  have HY0 := Lib.hid hy0; clear hy0
  have HNR := Lib.hid hnr; clear hnr
  have HD := Lib.hid hd; clear hd
  go_enter Tryz.func84, Tryz.ntmps84
  go_wp2_with fail
  obtain ⟨W, hW, hB, hbx, hby, hrx, hrz, hz⟩ := boxes3 w true ao n ca mb bo m cb
  rw [← hW]
  clear hW
  have hs0 := hs.below hB
  have hu0 := hu.below hB
  generalize hBe : w.heap.size = B at *
  have HBe := Lib.hid hBe; clear hBe
  have hBelow := Lib.hid hB
  clear hs hu hB
  obtain ⟨k1, hk1, hs1, ht1⟩ := trim_zs hs0 _ eax
  obtain ⟨k2, hk2, hu1, ht2⟩ := trim_zs hu0 _ eay
  have hk20 : ((k2 : Int) == 0) = false := by
    apply beq_eq_false_iff_ne.2
    intro h
    have h0 : (limbs y.natAbs).length = 0 := by rw [hu1.len]; omega
    have := limbs_inj ((List.eq_nil_of_length_eq_zero h0).trans limbs_zero.symm)
    exact HY0.out (by omega)
  have EAX := Lib.hid eax; clear eax
  have EAY := Lib.hid eay; clear eay
  have HT1 := Lib.hid ht1; clear ht1
  have HT2 := Lib.hid ht2; clear ht2
  have k0 := hbx.c0
  have k1' := hbx.c1
  have l0 := hby.c0
  have l1' := hby.c1
  go_quiet ((go_at_call 51; first | (with_reducible exact quiet_left (HT1.out _ (by exact hs0.drewN _))) | (with_reducible exact quiet_left (HT2.out _ (by exact hu0.drewN _)))))
  go_wp2_with fail
  obtain ⟨W2, hW2, hq⟩ := drewN_world W nq
  rw [hW2]
  clear hW2
  refine (HD.out _ _ _ _ _ _ W2 (hs1.below hq) (hu1.below hq) (by omega) (by omega)).mono ?_
  rintro e w2 ⟨qo, qk, qc, ro, rk, rc, rfl, hqs, hrs, hw2⟩
  obtain ⟨b1, z1⟩ := bnext hBelow.out (by omega) hq
  obtain ⟨b2, z2⟩ := bnext b1 z1 hw2
  have x2 := (hbx.below hq).below hw2
  have y2 := (hby.below hq).below hw2
  have p2 := (hrx.below hq).below hw2
  have r2 := (hrz.below hq).below hw2
  have b2' := Lib.hid b2
  have hu2q := (hu1.below hq).below hw2
  have hqk : qk ≤ n := by
    have h1 := limbs_mono (Nat.div_le_self x.natAbs y.natAbs)
    rw [hs1.len, hqs.len] at h1
    omega
  have hsz : B + 4 ≤ w2.heap.size := by have := hq.size; have := hw2.size; omega
  clear hs0 hu0 hs1 hu1 hbx hby hrx hrz hBelow hq hw2 b1 z1 b2 z2 k0 k1' l0 l1' HT1 HT2 HD
  have k0 := x2.c0
  have l0 := y2.c0
  have hrk0 : 0 < rk := by
    have hl := hrs.len
    apply Nat.pos_of_ne_zero
    intro h
    subst h
    have := limbs_inj ((List.eq_nil_of_length_eq_zero hl).trans limbs_zero.symm)
    exact HNR.out this
  have HQR := Lib.hid (divmod_adj (mb := mb) hwz hwy hx'.out hy'.out HY0.out HNR.out)
  rw [EAX.out, EAY.out] at HQR
  have hq2 := hu2q
  go_wp2_with fail
  have hone : Blk (w2.alloc (.cells #[.int .u32 1] 83)) w2.heap.size [1] := heap_alloc_new w2 _
  have hbw := (Below.refl w2.heap.size w2).alloc (Nat.le_refl _) (.cells #[.int .u32 1] 83)
  have hl1 : limbs 1 = [1] := by rw [limbs_pos (by omega), limbs_zero]; rfl
  have hsone := hone.sl (n := 1) (cap := 1) (Wf.cons (by omega) Wf.nil) rfl (by omega) (Nat.le_refl _)
  rw [← hl1] at hsone
  refine (plus_any _ _ _ _ _ _ _ _ _ (hqs.below hbw) hsone (by omega) (by omega)).mono ?_
  rintro e w5 ⟨qo', qk', qc', rfl, hqs5, hw5⟩
  have hw5' := hbw.trans (hw5.mono (by simp))
  have hrs5 := hrs.below hw5'
  have hu5 := hq2.below hw5'
  have p5' := p2.below hw5'
  have r5' := r2.below hw5'
  have x5 := x2.below hw5'
  have y5 := y2.below hw5'
  obtain ⟨b5', z5⟩ := bnext b2'.out (by omega) hw5'
  have hsz5 := hw5'.size
  clear hw5 hw5' hbw hone hsone hl1 hqs hrs hq2 hu2q p2 r2 x2 y2 k0 l0 b2'
  have k0 := x5.c0
  have l0 := y5.c0
  go_wp2_with fail
  refine (minus_any _ _ _ _ _ _ _ _ _ hu5 hrs5 (Nat.le_of_lt (Nat.mod_lt _ (by have := HY0.out; omega)))).mono ?_
  rintro e w2 ⟨ro', rk', rc', rfl, hrs, hw6⟩
  have hqs := hqs5.below hw6
  have p2 := p5'.below hw6
  have r2 := r5'.below hw6
  have x2 := x5.below hw6
  have y2 := y5.below hw6
  obtain ⟨b6, z6⟩ := bnext b5' z5 hw6
  have b2' := Lib.hid b6
  have hsz6 := hw6.size
  clear hw6 hqs5 hrs5 hu5 p5' r5' x5 y5 b5' z5 b6 z6 k0 l0
  have k0 := x2.c0
  have l0 := y2.c0
  go_wp2_with fail
  refine (signed_any _ _ _ _ _ _ hqs).mono ?_
  rintro e w3 ⟨so, sc, rfl, hs3, hw3⟩
  have hr3 := hrs.below hw3
  have p3 := p2.below hw3
  have r3 := r2.below hw3
  obtain ⟨b3, z3⟩ := bnext b2'.out (by omega) hw3
  have hsz3 := hw3.size
  clear k0 l0 x2 y2 hqs hrs hw3
  go_wp2_with fail
  refine (signed_any _ _ _ _ _ _ hr3).mono ?_
  rintro e w4 ⟨so', sc', rfl, hs4, hw4⟩
  have hq4 := hs3.below hw4
  have p4 := p3.below hw4
  have r4 := r3.below hw4
  obtain ⟨b4, z4⟩ := bnext b3 z3 hw4
  have hsz4 := hw4.size
  clear hw4 hs3 hr3 p3 r3 b3 z3 p2 r2
  have q0 := p4.c0
  have q1 := p4.c1
  have q2 := p4.f 0
  have q3 := p4.f 1
  have t0 := r4.c0
  have t1 := r4.c1
  have t2 := r4.f 0
  have t3 := r4.f 1
  obtain ⟨g5, h5, p5, s5, b5⟩ := two_stored p4 r4 (by omega) (B := B) (by omega) (by omega) (!mb && decide (0 < qk')) false so so' qk' rk' sc sc' _ _ hq4 hs4
  have u0 := g5.c0
  have u1 := g5.c1
  have u2 := h5.c0
  have u3 := h5.c1
  go_wp2
  refine bodyPost_ret (v := .tuple #[.agg #[.bool (!mb && decide (0 < qk')), .slice so qk' sc], .agg #[.bool false, .slice so' rk' sc'], .int .i64 0]) (by simp [results, Tryz.results84, go_sem, u0, u1, u2, u3]) rfl ⟨_, so, qk', sc, _, so', rk', sc', rfl, ?_, ?_, ?_⟩
  · exact bn_of p5 rfl (by rw [HQR.out.1]; cases mb <;> rfl)
  · exact bn_of (nb := false) s5 rfl (by rw [HQR.out.2]; rfl)
  · rw [HBe.out]; exact b4.trans b5

/-- quotient and remainder, the remainder not negative -/
theorem divMod_any (nb mb : Bool) (ao : Option Addr) (n ca : Nat) (bo : Option Addr) (m cb : Nat) (x y : Int) (w : World) (ha : Bg w nb ao n ca x) (hb : Bg w mb bo m cb y) (hy0 : y ≠ 0) (hnl : n ≤ 100000000) (hd : DivSays x.natAbs y.natAbs) :
    Calls Tryz.prog 84 #[.agg #[.bool nb, .slice ao n ca], .agg #[.bool mb, .slice bo m cb]] w fun e w' => ∃ qn qo qk qc rn ro rk rc, e = .returned (.tuple #[.agg #[.bool qn, .slice qo qk qc], .agg #[.bool rn, .slice ro rk rc], .int .i64 0]) ∧
      Bn w' qn qo qk qc (x / y) ∧ Bn w' rn ro rk rc (x % y) ∧ Below w.heap.size w w' := by
  by_cases h : nb = true → x.natAbs % y.natAbs = 0
  · exact divMod_plain nb mb ao n ca bo m cb x y w ha hb hy0 hnl hd h
  · have hn : nb = true := by
      cases nb with
      | true => rfl
      | false => exact absurd (fun e => by cases e) h
    subst hn
    exact divMod_adj mb ao n ca bo m cb x y w ha hb hy0 hnl hd (fun e => h (fun _ => e))
end Go.Proofs.YthicfkeiggcjjaaGreatDoor
