import Derived.Test.YtolghagbpnjpgaaGreatDoorFQuotU29
import Derived.Test.YtolghagbpnjpgaaGreatDoorFQuotU24
import Derived.Test.YtolghagbpnjpgaaGreatDoorFQuotU28
namespace Go.Proofs.YtolghagbpnjpgaaGreatDoor
open Go.RowKit

set_option maxRecDepth 100000 in
set_option maxHeartbeats 4000000 in
theorem frootd_none (v : Value) (mode : Int) (w : World) (hv : Dg w v none) (hT : Table w) :
    Calls Tryz.prog 25 #[v, .int .i64 mode] w fun r w' => r = .returned (.int .u64 9221120237041090560) ∧ Ext w w' := by
  obtain ⟨vb, vn, vo, vk, vc, ve, rfl⟩ := hv.parts
  have HT := Lib.hid hT
  clear hT
  go_enter Tryz.func25, Tryz.ntmps25
  go_upto_region 1 with fail
  obtain ⟨W, hW, hB, hx, hz⟩ := dbox_new w vb vn vo vk vc ve
  rw [← hW]
  clear hW
  have hd := hv.ext (show Ext w W from hB)
  have hTW := HT.out.below hB
  generalize hBe : w.heap.size = B at *
  have HBe := Lib.hid hBe
  clear hBe hv
  have c0 := hx.c0
  have c1 := hx.c1
  have c2 := hx.c2
  have c3 := hx.c3
  have HD := Lib.hid hd
  have HTW := Lib.hid hTW
  clear hd hTW
  go_wp2_with fail
  refine (dnorm_any _ _ _ HD.out HTW.out).mono ?_
  rintro r w1 ⟨v1, rfl, hd, hE⟩
  obtain ⟨nb, nn, no, nk, nc, ne, rfl⟩ := hd.parts
  obtain ⟨h1, h2, h3⟩ := hd.get
  obtain rfl : nb = true := h1
  have x1 := hx.below hE
  have b1 : Below B w w1 := hB.trans (Below.mono hE (by omega))
  clear c0 c1 c2 c3 hx hB hE
  have g0 := x1.f 0
  have g1 := x1.f 1
  have g2 := x1.f 2
  have g3 := x1.f 3
  have c0 := x1.c0
  have c1 := x1.c1
  have c2 := x1.c2
  have c3 := x1.c3
  clear hd h2 h3
  go_upto_region 2 with fail
  have ho := only_set4 w1 B (.bool true) (.bool nn) (.slice no nk nc) (.int .i64 ne)
  have x2 := x1.stored true nn no nk nc ne
  have b2 := b1.trans (ho.below (B := B) (Nat.le_refl _))
  generalize (((w1.setCell ⟨B, 0, none⟩ (.bool true)).setCell ⟨B, 1, none⟩ (.bool nn)).setCell ⟨B, 2, none⟩ (.slice no nk nc)).setCell ⟨B, 3, none⟩ (.int .i64 ne) = W2 at *
  clear c0 c1 c2 c3 g0 g1 g2 g3 x1 b1 ho
  have c0 := x2.c0
  have B2 := Lib.hid b2
  clear b2
  go_wp2
  go_ret
  refine ⟨rfl, ?_⟩
  show Below _ _ _
  rw [HBe.out]
  exact B2.out

set_option maxRecDepth 100000 in
set_option maxHeartbeats 4000000 in
theorem frootd_some (v : Value) (m e mode : Int) (w : World) (hv : Dg w v (some (m, e))) (hT : Table w) :
    Calls Tryz.prog 25 #[v, .int .i64 mode] w fun r w' => r = .returned (.int .u64 ((rootV (some (m, e)) mode : Nat) : Int)) ∧ Ext w w' := by
  obtain ⟨R, hR⟩ : ∃ R, rootV (some (m, e)) mode = R := ⟨_, rfl⟩
  rw [hR]
  have HR := Lib.hid hR
  clear hR
  obtain ⟨vb, vn, vo, vk, vc, ve, rfl⟩ := hv.parts
  have HT := Lib.hid hT
  clear hT
  go_enter Tryz.func25, Tryz.ntmps25
  go_upto_region 1 with fail
  obtain ⟨W, hW, hB, hx, hz⟩ := dbox_new w vb vn vo vk vc ve
  rw [← hW]
  clear hW
  have hd := hv.ext (show Ext w W from hB)
  have hTW := HT.out.below hB
  generalize hBe : w.heap.size = B at *
  have HBe := Lib.hid hBe
  clear hBe hv
  have c0 := hx.c0
  have c1 := hx.c1
  have c2 := hx.c2
  have c3 := hx.c3
  have HD := Lib.hid hd
  have HTW := Lib.hid hTW
  clear hd hTW
  go_wp2_with fail
  refine (dnorm_any _ _ _ HD.out HTW.out).mono ?_
  rintro r w1 ⟨v1, rfl, hd, hE⟩
  obtain ⟨nb, nn, no, nk, nc, ne, rfl⟩ := hd.parts
  obtain ⟨h1, h2, h3⟩ := hd.get
  obtain rfl : nb = false := h1
  have x1 := hx.below hE
  have b1 : Below B w w1 := hB.trans (Below.mono hE (by omega))
  clear c0 c1 c2 c3 hx hB hE
  have g0 := x1.f 0
  have g1 := x1.f 1
  have g2 := x1.f 2
  have g3 := x1.f 3
  have c0 := x1.c0
  have c1 := x1.c1
  have c2 := x1.c2
  have c3 := x1.c3
  obtain rfl : ne = e := h2
  have hbn : Bn w1 nn no nk nc m := h3
  have hnd : Nd (some (m, ne)) := hd.1
  have HNN := Lib.hid hbn.neg
  clear hd h3
  go_upto_region 2 with fail
  have hsl := hbn.sl
  have ho := only_set4 w1 B (.bool false) (.bool nn) (.slice no nk nc) (.int .i64 ne)
  have x2 := x1.stored false nn no nk nc ne
  have s2 := hsl.only_dbox x1 ho
  have n2 := hbn.only_dbox x1 ho
  have b2 := b1.trans (ho.below (B := B) (Nat.le_refl _))
  generalize (((w1.setCell ⟨B, 0, none⟩ (.bool false)).setCell ⟨B, 1, none⟩ (.bool nn)).setCell ⟨B, 2, none⟩ (.slice no nk nc)).setCell ⟨B, 3, none⟩ (.int .i64 ne) = W2 at *
  clear c0 c1 c2 c3 g0 g1 g2 g3 x1 b1 ho hsl hbn
  have hnk : nk ≤ 4096 := by
    rw [← s2.len]
    have h4 := (nd_blen hnd).1
    exact limbs_of_blen (a := m.natAbs) (k := 4096) (show blen m.natAbs ≤ 131072 from h4)
  have hne := (nd_blen hnd).2
  have hne0 : -65536 ≤ ne := hne.1
  have hne1 : ne ≤ 65536 := hne.2
  clear hne
  have CS := Lib.hid (fun wx (h : Ext W2 wx) => sign_any nn no nk nc m wx ((n2.below h).bg (by omega)))
  have hcells : ∀ wx, Ext W2 wx → (wx.cell? ⟨B, 0, none⟩ = some (.bool false) ∧ wx.cell? ⟨B, 1, none⟩ = some (.bool nn) ∧ wx.cell? ⟨B, 2, none⟩ = some (.slice no nk nc) ∧ wx.cell? ⟨B, 3, none⟩ = some (.int .i64 ne)) := fun wx h => ⟨(x2.ext h).c0, (x2.ext h).c1, (x2.ext h).c2, (x2.ext h).c3⟩
  have HC := Lib.hid hcells
  have B2 := Lib.hid (And.intro b2 x2.lt)
  have HND := Lib.hid hnd
  have S2 := Lib.hid s2
  clear hcells s2 n2 x2 b2 hnd
  cases nn with
  | true =>
    have hm : m < 0 := of_decide_eq_true HNN.out.symm
    obtain ⟨c0, c1, c2, c3⟩ := HC.out W2 (Ext.refl _)
    go_wp2
    go_ret
    refine ⟨by rw [← HR.out]; unfold rootV; dsimp only; rw [if_pos hm]; rfl, ?_⟩
    show Below _ _ _
    rw [HBe.out]
    exact B2.out.1
  | false =>
    have hm0 : ¬ m < 0 := of_decide_eq_false HNN.out.symm
    obtain ⟨c0, c1, c2, c3⟩ := HC.out W2 (Ext.refl _)
    by_cases hm : m = 0
    · have v1 : sgn3 m 0 = 0 := by rw [hm]; decide
      go_wp2_with fail
      refine (CS.out _ (Ext.refl _)).mono ?_
      rintro r w3 ⟨rfl, hE⟩
      have E3 : Ext W2 w3 := hE
      clear c0 c1 c2 c3 hE
      go_wp2
      go_ret
      refine ⟨by rw [← HR.out]; unfold rootV; dsimp only; rw [if_neg (by omega), if_pos hm]; rfl, ?_⟩
      show Below _ _ _
      rw [HBe.out]
      exact B2.out.1.trans (Below.mono E3 (by have := B2.out.2; omega))
    · have hodd : m.natAbs % 2 = 1 := by
        rcases HND.out with ⟨h, _⟩ | ⟨h, _⟩
        · exact absurd h hm
        · exact h
      have v1 : (sgn3 m 0 == 0) = false := by rw [beq_eq_false_iff_ne]; unfold sgn3; split <;> (try split) <;> omega
      have CL := Lib.hid (fun wx (h : Ext W2 wx) => flead_top no nk nc m.natAbs ne wx (S2.out.below h) ⟨by omega, Or.inl hodd⟩ (by omega) (by omega) (by omega))
      have hmA : m = ((m.natAbs : Nat) : Int) := by omega
      have hA0 : m.natAbs ≠ 0 := by omega
      obtain ⟨A, hA⟩ : ∃ A, m.natAbs = A := ⟨_, rfl⟩
      rw [hA] at hmA hA0 CL
      have hR := HR.out
      have CO := Lib.hid (fun (r : Nat) (E : Int) (T : Bool) (h : RootG A ne r E T) (e0 : -200000000 ≤ E) (e1 : E ≤ 200000000) (wx : World) =>
        fround_at 0 r E T false mode (by omega) (by have := h.r3; omega) (by have := h.r2; omega) (fun _ => Nat.le_trans (by decide) (Nat.le_trans h.r2 (Nat.le_add_left _ _))) (by omega) (by omega) (z := 0) rfl R (by rw [Nat.zero_mul, Nat.zero_add, Nat.zero_add, h.fla hA0, ← hmA, hR]) wx)
      clear hodd hmA hA0 hR hA
      go_wp2_with fail
      refine (CS.out _ (Ext.refl _)).mono ?_
      rintro r w3 ⟨rfl, hE⟩
      have E3 : Ext W2 w3 := hE
      clear c0 c1 c2 c3 hE
      obtain ⟨c0, c1, c2, c3⟩ := HC.out w3 E3
      go_wp2_with fail
      refine (CL.out _ E3).mono ?_
      rintro e wn ⟨H, L, E, T, j, rfl, hH, hL, hV, h0, hE, hTT, h53, -, hj, hE1⟩
      have CG := Lib.hid (fun wx => froot_any (A := A) (j := j) (hi := H) (lo := L) (e := E) (ea := ne) (t := T) hH hL hV hTT h0 h53 hE (by omega) (by omega) wx)
      clear hV h0 hE hTT h53 hj
      have E4 : Ext W2 wn := Ext.trans E3 hE1
      clear c0 c1 c2 c3 hE1 E3
      go_wp2_with fail
      refine (CG.out _).mono ?_
      rintro e wm ⟨r, E', T', rfl, hG, e0, e1, hE1⟩
      have CO1 := Lib.hid (CO.out r E' T' hG e0 e1)
      have E5 : Ext W2 wm := Ext.trans E4 hE1
      clear hG e0 e1 hE1 E4
      go_wp2_with fail
      refine (CO1.out _).mono ?_
      rintro e wl ⟨rfl, hE1⟩
      have E6 := Lib.hid (Ext.trans E5 hE1)
      clear hE1 E5
      go_wp2
      go_ret
      refine ⟨rfl, ?_⟩
      show Below _ _ _
      rw [HBe.out]
      exact B2.out.1.trans (Below.mono E6.out (by have := B2.out.2; omega))

theorem frootd_any (v : Value) (d : Dy) (mode : Int) (w : World) (hv : Dg w v d) (hT : Table w) :
    Calls Tryz.prog 25 #[v, .int .i64 mode] w fun r w' => r = .returned (.int .u64 ((rootV d mode : Nat) : Int)) ∧ Ext w w' := by
  cases d with
  | none => exact frootd_none v mode w hv hT
  | some p => exact frootd_some v p.1 p.2 mode w hv hT
end Go.Proofs.YtolghagbpnjpgaaGreatDoor

namespace Go.Proofs.YtolghagbpnjpgaaGreatDoor

/-- a quotient, and whether it is a little too small -/
structure QuoG (A C : Nat) (e : Int) (q : Nat) (E : Int) (T : Bool) : Prop where
  big : 2 ^ 53 ≤ q
  val : ∃ a b : Nat, E = e - (a : Int) + b ∧ q = A * 2 ^ a / (C * 2 ^ b) ∧ T = decide (A * 2 ^ a % (C * 2 ^ b) ≠ 0)
theorem QuoG.fla {A C q : Nat} {e E : Int} {T : Bool} (h : QuoG A C e q E T) (hA : A ≠ 0) (hC : C ≠ 0) (neg : Bool) (mode : Int) :
    fla neg q E T mode = fla neg (A * 2 ^ (60 + 2 + blen C - blen A) / C) (e + -((60 + 2 + blen C - blen A : Nat) : Int)) (decide (A * 2 ^ (60 + 2 + blen C - blen A) % C ≠ 0)) mode := by
  obtain ⟨h53, a, b, hE, hq, hT⟩ := h
  have h1 : A * 2 ^ a / C / 2 ^ b = q := by rw [hq, Nat.div_div_eq_div_mul]
  have h2 : (decide (A * 2 ^ a % C ≠ 0) || decide (A * 2 ^ a / C % 2 ^ b ≠ 0)) = T := by
    rw [hT, Nat.mod_mul, ← Bool.decide_or]
    apply decide_eq_decide.2
    have hpC := Nat.pos_of_ne_zero hC
    generalize A * 2 ^ a % C = x
    generalize A * 2 ^ a / C % 2 ^ b = y
    constructor
    · intro h3 h4
      rcases h3 with h3 | h3
      · omega
      · have := Nat.mul_pos hpC (Nat.pos_of_ne_zero h3); omega
    · intro h3
      by_cases hx : x = 0
      · right
        rintro rfl
        apply h3
        rw [hx]; rfl
      · exact Or.inl hx
  have h3 := fla_tail neg (N := A * 2 ^ a / C) (e - (a : Int)) (decide (A * 2 ^ a % C ≠ 0)) mode b (by rw [h1]; exact h53)
  rw [h1, h2] at h3
  rw [hE, h3]
  have h4 : 2 ^ 53 ≤ A * 2 ^ a / C := Nat.le_trans h53 (by rw [← h1]; exact Nat.div_le_self _ _)
  have h5 := fla_quo_any (neg := neg) (mode := mode) (E := e) hC h4 (big_53 (quo_big hA hC))
  rw [h5]
  rfl
theorem quoG_of {A C j N i y q : Nat} {e E : Int} {t : Bool} (hN : N = A / 2 ^ j) (ht : t = decide (A % 2 ^ j ≠ 0)) (hi : t = true → i = 0) (hE : E = e + j - i + y) (hq : q = N * 2 ^ i / (C * 2 ^ y)) (big : 2 ^ 53 ≤ q) :
    QuoG A C e q E (t || decide (N * 2 ^ i % (C * 2 ^ y) ≠ 0)) := by
  have hj : 0 < 2 ^ j := Nat.pow_pos (by omega)
  have key : A * 2 ^ i / (C * 2 ^ (j + y)) = N * 2 ^ i / (C * 2 ^ y) ∧ decide (A * 2 ^ i % (C * 2 ^ (j + y)) ≠ 0) = (t || decide (N * 2 ^ i % (C * 2 ^ y) ≠ 0)) := by
    have e2 : C * 2 ^ (j + y) = C * 2 ^ y * 2 ^ j := by rw [Nat.add_comm, Nat.pow_add, Nat.mul_assoc]
    cases htt : t with
    | false =>
      rw [htt] at ht
      have h0 : A % 2 ^ j = 0 := by simpa using of_decide_eq_false ht.symm
      have hA : A = N * 2 ^ j := by
        have := Nat.div_add_mod A (2 ^ j)
        rw [h0, ← hN, Nat.add_zero, Nat.mul_comm] at this
        exact this.symm
      have e1 : A * 2 ^ i = N * 2 ^ i * 2 ^ j := by rw [hA]; exact Nat.mul_right_comm _ _ _
      rw [e1, e2, Nat.mul_div_mul_right _ _ hj, Nat.mul_mod_mul_right, Bool.false_or]
      refine ⟨rfl, decide_eq_decide.2 ⟨fun h1 h2 => h1 (by rw [h2, Nat.zero_mul]), fun h1 h2 => ?_⟩⟩
      rcases Nat.mul_eq_zero.1 h2 with h3 | h3
      · exact h1 h3
      · omega
    | true =>
      rw [hi htt, Nat.pow_zero, Nat.mul_one, Nat.mul_one, hN, e2, Nat.mul_comm (C * 2 ^ y), Nat.div_div_eq_div_mul, Bool.true_or]
      refine ⟨rfl, decide_eq_true ?_⟩
      have h0 : A % 2 ^ j ≠ 0 := of_decide_eq_true (by rw [← ht, htt])
      intro h1
      apply h0
      rw [Nat.mod_mul] at h1
      omega
  exact ⟨big, i, j + y, by omega, by rw [key.1]; exact hq, key.2.symm⟩
/-- .. of a long division: the dividend is shifted up or down -/
theorem quoG_long {A C : Nat} {e sh : Int} {q : Nat} {t : Bool} (hodd : A % 2 = 1) (hC : C ≠ 0) (hs : sh = 127 + (blen C : Int) - (blen A : Int)) (hq : q = (shf (A : Int) sh).toNat / C) (ht : t = (decide (sh < 0) || decide ((shf (A : Int) sh).toNat % C ≠ 0))) :
    QuoG A C e q (e - sh) t ∧ q < 2 ^ 128 ∧ 2 ^ 125 ≤ q := by
  have hA : A ≠ 0 := by omega
  have bA : 1 ≤ blen A := by unfold blen; rw [if_neg hA]; omega
  have lA : 2 ^ (blen A - 1) ≤ A := by
    have := Nat.log2_self_le hA
    have e : blen A - 1 = Nat.log2 A := by unfold blen; rw [if_neg hA]; omega
    rw [e]; exact this
  have bC : 1 ≤ blen C := by unfold blen; rw [if_neg hC]; omega
  have lC : 2 ^ (blen C - 1) ≤ C := by
    have := Nat.log2_self_le hC
    have e : blen C - 1 = Nat.log2 C := by unfold blen; rw [if_neg hC]; omega
    rw [e]; exact this
  have uA := blen_lt A
  have uC := blen_lt C
  have hpC := Nat.pos_of_ne_zero hC
  rcases Int.lt_or_le sh 0 with h | h
  · obtain ⟨n, hn⟩ : ∃ n : Nat, sh = -(n : Int) := ⟨(-sh).toNat, by omega⟩
    have hv : (shf (A : Int) sh).toNat = A / 2 ^ n := by
      unfold shf
      rw [if_neg (by omega), hn, Int.neg_neg, Int.toNat_natCast]
      rw [show ((A : Int) / 2 ^ n) = ((A / 2 ^ n : Nat) : Int) by rw [Int.natCast_ediv, Int.natCast_pow]; rfl, Int.toNat_natCast]
    rw [hv] at hq ht
    have hq2 : q = A * 2 ^ 0 / (C * 2 ^ n) := by rw [hq, Nat.pow_zero, Nat.mul_one, Nat.div_div_eq_div_mul, Nat.mul_comm]
    have hq3 : q = A / (C * 2 ^ n) := by rw [hq2, Nat.pow_zero, Nat.mul_one]
    have hlow : 2 ^ 125 ≤ q := by
      rw [hq3, Nat.le_div_iff_mul_le (Nat.mul_pos hpC (Nat.pow_pos (by omega)))]
      refine Nat.le_trans ?_ lA
      refine Nat.le_trans (Nat.mul_le_mul_left _ (Nat.mul_le_mul_right _ (Nat.le_of_lt uC))) ?_
      rw [← Nat.pow_add, ← Nat.pow_add]
      exact Nat.pow_le_pow_right (by omega) (by omega)
    have hup : q < 2 ^ 128 := by
      rw [hq3, Nat.div_lt_iff_lt_mul (Nat.mul_pos hpC (Nat.pow_pos (by omega)))]
      refine Nat.lt_of_lt_of_le uA ?_
      refine Nat.le_trans ?_ (Nat.mul_le_mul_left _ (Nat.mul_le_mul_right _ lC))
      rw [← Nat.pow_add, ← Nat.pow_add]
      exact Nat.pow_le_pow_right (by omega) (by omega)
    refine ⟨⟨Nat.le_trans (Nat.pow_le_pow_right (by omega) (by omega)) hlow, 0, n, by omega, hq2, ?_⟩, hup, hlow⟩
    rw [ht, decide_eq_true h, Bool.true_or]
    refine (decide_eq_true ?_).symm
    intro h1
    rw [Nat.pow_zero, Nat.mul_one] at h1
    have h2 : 2 ∣ C * 2 ^ n := Nat.dvd_trans ⟨2 ^ (n - 1), by rw [← Nat.pow_succ']; congr 1; omega⟩ (Nat.dvd_mul_left _ _)
    have h3 := Nat.mod_eq_zero_of_dvd (Nat.dvd_trans h2 (Nat.dvd_of_mod_eq_zero h1))
    omega
  · obtain ⟨n, hn⟩ : ∃ n : Nat, sh = (n : Int) := ⟨sh.toNat, by omega⟩
    have hv : (shf (A : Int) sh).toNat = A * 2 ^ n := by
      unfold shf
      rw [if_pos (by omega), hn, Int.toNat_natCast]
      rw [show ((A : Int) * 2 ^ n) = ((A * 2 ^ n : Nat) : Int) by rw [Int.natCast_mul, Int.natCast_pow]; rfl, Int.toNat_natCast]
    rw [hv] at hq ht
    have hlow : 2 ^ 125 ≤ q := by
      rw [hq, Nat.le_div_iff_mul_le hpC]
      refine Nat.le_trans (Nat.mul_le_mul_left _ (Nat.le_of_lt uC)) ?_
      refine Nat.le_trans ?_ (Nat.mul_le_mul_right _ lA)
      rw [← Nat.pow_add, ← Nat.pow_add]
      exact Nat.pow_le_pow_right (by omega) (by omega)
    have hup : q < 2 ^ 128 := by
      rw [hq, Nat.div_lt_iff_lt_mul hpC]
      refine Nat.lt_of_lt_of_le (Nat.mul_lt_mul_of_pos_right uA (Nat.pow_pos (by omega))) ?_
      refine Nat.le_trans ?_ (Nat.mul_le_mul_left _ lC)
      rw [← Nat.pow_add, ← Nat.pow_add]
      exact Nat.pow_le_pow_right (by omega) (by omega)
    refine ⟨⟨Nat.le_trans (Nat.pow_le_pow_right (by omega) (by omega)) hlow, n, 0, by omega, by rw [hq, Nat.pow_zero, Nat.mul_one], ?_⟩, hup, hlow⟩
    rw [ht, decide_eq_false (by omega), Bool.false_or, Nat.pow_zero, Nat.mul_one]
end Go.Proofs.YtolghagbpnjpgaaGreatDoor
