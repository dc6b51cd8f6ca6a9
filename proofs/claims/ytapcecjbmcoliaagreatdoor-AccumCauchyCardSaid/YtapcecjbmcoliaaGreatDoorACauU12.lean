import Derived.Test.YtapcecjbmcoliaaGreatDoorACauU11
namespace Go.Proofs.YtapcecjbmcoliaaGreatDoor
open Go.RowKit

/-- h 2^64 + l, with a tail t, moved down by k: the bits that are left, and the tail -/
structure Dn64 (N K : Nat) (t0 : Bool) (h l : Nat) (t : Bool) (k : Nat) : Prop where
  q : (h * 18446744073709551616 + l) / 2 ^ k = N / 2 ^ K
  r : (t || decide ((h * 18446744073709551616 + l) % 2 ^ k ≠ 0)) = (t0 || decide (N % 2 ^ K ≠ 0))

theorem word_split {h l k : Nat} (hl : l < 18446744073709551616) :
    (h * 18446744073709551616 + l) / 2 ^ (k + 64) = h / 2 ^ k ∧ ((h * 18446744073709551616 + l) % 2 ^ (k + 64) ≠ 0 ↔ l ≠ 0 ∨ h % 2 ^ k ≠ 0) := by
  have e : (2 : Nat) ^ (k + 64) = 18446744073709551616 * 2 ^ k := by rw [Nat.pow_add, Nat.mul_comm]
  have e1 : (h * 18446744073709551616 + l) / 18446744073709551616 = h := by omega
  have e2 : (h * 18446744073709551616 + l) % 18446744073709551616 = l := by omega
  rw [e]
  refine ⟨by rw [← Nat.div_div_eq_div_mul, e1], ?_⟩
  rw [Nat.mod_mul, e1, e2]
  generalize h % 2 ^ k = r
  omega

theorem Dn64.step {N K h l k : Nat} {t0 t : Bool} (d : Dn64 N K t0 h l t (k + 64)) (hl : l < 18446744073709551616) : Dn64 N K t0 0 h (t || decide (l ≠ 0)) k := by
  obtain ⟨h1, h2⟩ := word_split (h := h) (k := k) hl
  have h3 : decide ((h * 18446744073709551616 + l) % 2 ^ (k + 64) ≠ 0) = (decide (l ≠ 0) || decide (h % 2 ^ k ≠ 0)) := by
    rw [← Bool.decide_or]; exact decide_eq_decide.2 h2
  refine ⟨?_, ?_⟩
  · rw [Nat.zero_mul, Nat.zero_add, ← h1]; exact d.q
  · rw [Nat.zero_mul, Nat.zero_add, ← d.r, h3, Bool.or_assoc]

/-- the last step, by less than a word -/
theorem Dn64.last {N K h l k : Nat} {t0 t : Bool} (d : Dn64 N K t0 h l t k) (_hh : h < 18446744073709551616) (hl : l < 18446744073709551616) (hk : k < 64) :
    h / 2 ^ k * 18446744073709551616 + (h * 2 ^ (64 - k) % 18446744073709551616 + l / 2 ^ k) = N / 2 ^ K ∧ (t || decide (l * 2 ^ (64 - k) % 18446744073709551616 ≠ 0)) = (t0 || decide (N % 2 ^ K ≠ 0)) ∧
    l / 2 ^ k < 2 ^ (64 - k) ∧ h * 2 ^ (64 - k) % 18446744073709551616 = h % 2 ^ k * 2 ^ (64 - k) ∧ h * 2 ^ (64 - k) % 18446744073709551616 + l / 2 ^ k < 18446744073709551616 := by
  have e : (18446744073709551616 : Nat) = 2 ^ k * 2 ^ (64 - k) := by rw [← Nat.pow_add, show k + (64 - k) = 64 by omega]
  have hp : 0 < 2 ^ k := Nat.pow_pos (by omega)
  have hq : 0 < 2 ^ (64 - k) := Nat.pow_pos (by omega)
  have r1 := rest_eq (h := h) (d := k) (by omega)
  have r2 := rest_eq (h := l) (d := k) (by omega)
  have l1 : l / 2 ^ k < 2 ^ (64 - k) := by rw [Nat.div_lt_iff_lt_mul hp, Nat.mul_comm, ← e]; exact hl
  have m1 := Nat.mod_lt h hp
  have l2 : h % 2 ^ k * 2 ^ (64 - k) + 2 ^ (64 - k) ≤ 18446744073709551616 := by
    have := Nat.mul_le_mul_right (2 ^ (64 - k)) (show h % 2 ^ k + 1 ≤ 2 ^ k from m1)
    rwa [Nat.add_mul, Nat.one_mul, ← e] at this
  have dm := Nat.div_add_mod h (2 ^ k)
  have key : h * 18446744073709551616 + l = 2 ^ k * (h / 2 ^ k * 18446744073709551616 + h % 2 ^ k * 2 ^ (64 - k)) + l := by
    congr 1
    have a1 : 2 ^ k * (h % 2 ^ k * 2 ^ (64 - k)) = h % 2 ^ k * 18446744073709551616 := by
      rw [Nat.mul_left_comm, ← e]
    rw [Nat.mul_add, a1, ← Nat.mul_assoc, ← Nat.add_mul, dm]
  have d1 : (h * 18446744073709551616 + l) / 2 ^ k = h / 2 ^ k * 18446744073709551616 + h % 2 ^ k * 2 ^ (64 - k) + l / 2 ^ k := by
    rw [key, Nat.mul_add_div hp]
  have d2 : (h * 18446744073709551616 + l) % 2 ^ k = l % 2 ^ k := by rw [key, Nat.mul_add_mod]
  refine ⟨by rw [r1, ← Nat.add_assoc, ← d1]; exact d.q, ?_, l1, r1, by rw [r1]; omega⟩
  rw [← d.r, d2]
  congr 1
  refine decide_eq_decide.2 ?_
  rw [r2]
  constructor
  · intro h1 h2; exact h1 (by rw [h2, Nat.zero_mul])
  · intro h1 h2; rcases Nat.mul_eq_zero.1 h2 with h3 | h3 <;> omega

theorem Dn64.start (N : Nat) {k : Nat} (t : Bool) {h l : Nat} (hN : N = h * 18446744073709551616 + l) (hh : h < 18446744073709551616) (hl : l < 18446744073709551616) : Dn64 N k t h l t (min k 128) := by
  by_cases h1 : k ≤ 128
  · rw [Nat.min_eq_left h1, hN]; exact ⟨rfl, rfl⟩
  · rw [Nat.min_eq_right (by omega)]
    have hb : N < 2 ^ 128 := by rw [hN]; omega
    have h2 : 2 ^ 128 ≤ 2 ^ k := Nat.pow_le_pow_right (by omega) (by omega)
    refine ⟨?_, ?_⟩
    · rw [← hN, Nat.div_eq_of_lt hb, Nat.div_eq_of_lt (by omega)]
    · rw [← hN, Nat.mod_eq_of_lt hb, Nat.mod_eq_of_lt (by omega)]

theorem or_comm64 {a b : Nat} (ha : a < 18446744073709551616) (hb : b < 18446744073709551616) : bits BinOp.or IntKind.u64 (a : Int) (b : Int) = bits BinOp.or IntKind.u64 (b : Int) (a : Int) := by
  rw [bits_or_u64_nat _ _ ha hb, bits_or_u64_nat _ _ hb ha, Nat.or_comm]

theorem NBox.stored2 {w : World} {g : Nat} {hi lo e : Int} {t : Bool} (h : NBox w g hi lo e t) (e' : Int) : NBox (w.setCell ⟨g, 2, none⟩ (.int .i64 e')) g hi lo e' t := by
  unfold NBox at h ⊢
  simp [World.setCell, Array.getElem?_modify, h]
theorem NBox.stored3 {w : World} {g : Nat} {hi lo e : Int} {t : Bool} (h : NBox w g hi lo e t) (t' : Bool) : NBox (w.setCell ⟨g, 3, none⟩ (.bool t')) g hi lo e t' := by
  unfold NBox at h ⊢
  simp [World.setCell, Array.getElem?_modify, h]
theorem NBox.stored01 {w : World} {g : Nat} {hi lo e : Int} {t : Bool} (h : NBox w g hi lo e t) (hi' lo' : Int) : NBox ((w.setCell ⟨g, 0, none⟩ (.int .u64 hi')).setCell ⟨g, 1, none⟩ (.int .u64 lo')) g hi' lo' e t := by
  unfold NBox at h ⊢
  simp [World.setCell, Array.getElem?_modify, h]
theorem NBox.stored10 {w : World} {g : Nat} {hi lo e : Int} {t : Bool} (h : NBox w g hi lo e t) (hi' lo' : Int) : NBox ((w.setCell ⟨g, 1, none⟩ (.int .u64 lo')).setCell ⟨g, 0, none⟩ (.int .u64 hi')) g hi' lo' e t := by
  unfold NBox at h ⊢
  simp [World.setCell, Array.getElem?_modify, h]

set_option maxRecDepth 100000 in
set_option maxHeartbeats 4000000 in
theorem fdown_any (hi lo K : Nat) (e : Int) (t : Bool) (hh : hi < 18446744073709551616) (hl : lo < 18446744073709551616) (he0 : -1000000000000 ≤ e) (he1 : e ≤ 1000000000000) (hK : K ≤ 1000000000000) (w : World) :
    Calls Tryz.prog 121 #[.agg #[.int .u64 (hi : Int), .int .u64 (lo : Int), .int .i64 e, .bool t], .int .i64 (K : Int)] w fun r w' => ∃ H L : Nat, r = .returned (.agg #[.int .u64 (H : Int), .int .u64 (L : Int), .int .i64 (e + K), .bool (t || decide ((hi * 18446744073709551616 + lo) % 2 ^ K ≠ 0))]) ∧
      H * 18446744073709551616 + L = (hi * 18446744073709551616 + lo) / 2 ^ K ∧ H < 18446744073709551616 ∧ L < 18446744073709551616 ∧ Ext w w' := by
  have hst := Dn64.start (hi * 18446744073709551616 + lo) (k := K) t rfl hh hl
  obtain ⟨kk, hkk⟩ : ∃ kk, min K 128 = kk := ⟨_, rfl⟩
  have hk1 : kk ≤ 128 := by omega
  have hk2 : min (K : Int) 128 = (kk : Int) := by omega
  rw [hkk] at hst
  clear hkk
  obtain ⟨N, hN⟩ : ∃ N, hi * 18446744073709551616 + lo = N := ⟨_, rfl⟩
  rw [hN] at hst
  rw [hN]
  clear hN
  obtain ⟨E, hE⟩ : ∃ E : Int, e + K = E := ⟨_, rfl⟩
  have hst := Lib.hid hst
  go_enter Tryz.func121, Tryz.ntmps121
  go_upto_region 1 with fail
  obtain ⟨W, hW, hB, hx, hr, hz⟩ := boxes_nn w hi lo e t 0 0 0 false
  rw [← hW]
  clear hW
  generalize hBe : w.heap.size = B at *
  have HBe := Lib.hid hBe
  clear hBe
  have c2 := hx.c2
  have g2 := hx.f 2
  go_upto_region 3 with fail
  have x1 := hx.stored2 E
  have r1 := hr.only (only_set1 W B 2 (.int .i64 E)) (by omega)
  have b1 := hB.trans ((only_set1 W B 2 (.int .i64 E)).below (Nat.le_refl _))
  have HE := Lib.hid hE
  generalize W.setCell ⟨B, 2, none⟩ (.int .i64 E) = W1 at *
  clear hx hr hB hz c2 g2 hE hk2
  go_loopw [1] (fun kv wx => ∃ (h l : Nat) (tt : Bool) (kk : Nat), kv = .int .i64 kk ∧ kk ≤ 128 ∧ h < 18446744073709551616 ∧ l < 18446744073709551616 ∧ Dn64 N K t h l tt kk ∧ NBox wx B h l E tt ∧ NBox wx (B + 1) 0 0 0 false ∧ Below B w wx) (fun kv _ => (intOf kv).toNat)
  case atStart => exact ⟨hi, lo, t, kk, rfl, hk1, hh, hl, hst.out, x1, r1, b1⟩
  case round =>
    clear x1 r1 b1 hst hk1 hh hl
    obtain ⟨h, l, tt, kk, rfl, hk1, hh, hl, hd, x1, r1, b1⟩ := hrel
    have c0 := x1.c0
    have c1 := x1.c1
    have c2 := x1.c2
    have c3 := x1.c3
    have g0 := x1.f 0
    have g1 := x1.f 1
    have g2 := x1.f 2
    have g3 := x1.f 3
    by_cases h64 : 64 ≤ kk
    · obtain ⟨j, rfl⟩ : ∃ j, kk = j + 64 := ⟨kk - 64, by omega⟩
      have hd := hd.step hl
      have HD := Lib.hid hd
      clear hd
      have h64 : (64 : Int) ≤ ((j + 64 : Nat) : Int) := by omega
      have hj : ((j + 64 : Nat) : Int) - 64 = (j : Int) := by omega
      obtain ⟨q, hq⟩ : ∃ q : Int, ((j + 64 : Nat) : Int) = q := ⟨_, rfl⟩
      rw [hq] at h64 hj
      rw [hq]
      have HQ := Lib.hid hq
      clear hq
      obtain ⟨tn, htn⟩ : ∃ tn, (tt || decide (l ≠ 0)) = tn := ⟨_, rfl⟩
      rw [htn] at HD
      cases tt with
      | true =>
        obtain rfl : true = tn := by rw [← htn]; rfl
        clear htn
        go_wp2
        go_roundw
        case rel => exact ⟨0, h, true, j, by first | rfl | rw [hj], by omega, by omega, hh, HD.out, (x1.stored3 true).stored01 0 h, (r1.only (only_set1 _ B 3 _) (by omega)).only (only_set2 _ B _ _) (by omega), (b1.trans ((only_set1 _ B 3 _).below (Nat.le_refl _))).trans ((only_set2 _ B _ _).below (Nat.le_refl _))⟩
        case measure => have := HQ.out; simp [intOf] <;> omega
      | false =>
        by_cases hl0 : l = 0
        · obtain rfl : false = tn := by rw [← htn, hl0]; rfl
          clear htn
          have hl0 : ((l : Int) != 0) = false := by rw [bne_eq_false_iff_eq]; omega
          go_wp2
          go_roundw
          case rel => exact ⟨0, h, false, j, by first | rfl | rw [hj], by omega, by omega, hh, HD.out, (x1.stored3 false).stored01 0 h, (r1.only (only_set1 _ B 3 _) (by omega)).only (only_set2 _ B _ _) (by omega), (b1.trans ((only_set1 _ B 3 _).below (Nat.le_refl _))).trans ((only_set2 _ B _ _).below (Nat.le_refl _))⟩
          case measure => have := HQ.out; simp [intOf] <;> omega
        · obtain rfl : true = tn := by rw [← htn]; simp [hl0]
          clear htn
          have hl0 : ((l : Int) != 0) = true := by rw [bne_iff_ne]; omega
          go_wp2
          go_roundw
          case rel => exact ⟨0, h, true, j, by first | rfl | rw [hj], by omega, by omega, hh, HD.out, (x1.stored3 true).stored01 0 h, (r1.only (only_set1 _ B 3 _) (by omega)).only (only_set2 _ B _ _) (by omega), (b1.trans ((only_set1 _ B 3 _).below (Nat.le_refl _))).trans ((only_set2 _ B _ _).below (Nat.le_refl _))⟩
          case measure => have := HQ.out; simp [intOf] <;> omega
    · obtain ⟨d1, d2, d3, d4, d5⟩ := hd.last hh hl (by omega)
      have D1 := Lib.hid d1
      have D2 := Lib.hid d2
      have hs1 : IntKind.u64.wrap ((l : Int) * 2 ^ (64 - kk)) = ((l * 2 ^ (64 - kk) % 18446744073709551616 : Nat) : Int) := by rw [IntKind.wrap_u64]; exact (cast_modpow l (64 - kk) 18446744073709551616).symm
      have hs2 : IntKind.u64.wrap ((h : Int) * 2 ^ (64 - kk)) = ((h * 2 ^ (64 - kk) % 18446744073709551616 : Nat) : Int) := by rw [IntKind.wrap_u64]; exact (cast_modpow h (64 - kk) 18446744073709551616).symm
      have hs6 : ((l : Int) * 2 ^ (64 - kk)) % 18446744073709551616 = ((l * 2 ^ (64 - kk) % 18446744073709551616 : Nat) : Int) := (cast_modpow l (64 - kk) 18446744073709551616).symm
      have hs3 : (l : Int) / 2 ^ kk = ((l / 2 ^ kk : Nat) : Int) := (cast_divpow _ _).symm
      have hs4 : (h : Int) / 2 ^ kk = ((h / 2 ^ kk : Nat) : Int) := (cast_divpow _ _).symm
      have hs5 : bits BinOp.or IntKind.u64 ((l / 2 ^ kk : Nat) : Int) ((h * 2 ^ (64 - kk) % 18446744073709551616 : Nat) : Int) = ((h * 2 ^ (64 - kk) % 18446744073709551616 + l / 2 ^ kk : Nat) : Int) := by
        rw [or_comm64 (by omega) (by omega), d4]
        exact or_add d3 (by rw [← d4]; exact d5)
      have hq : h / 2 ^ kk < 18446744073709551616 := Nat.lt_of_le_of_lt (Nat.div_le_self _ _) hh
      generalize l * 2 ^ (64 - kk) % 18446744073709551616 = Z at *
      generalize h * 2 ^ (64 - kk) % 18446744073709551616 + l / 2 ^ kk = S at *
      generalize h * 2 ^ (64 - kk) % 18446744073709551616 = Y at *
      generalize l / 2 ^ kk = X at *
      generalize h / 2 ^ kk = Q at *
      clear d1 d2 d3 d4 hd
      have k0 : (0 : Int) ≤ (kk : Int) := by omega
      have k1 : (kk : Int) ≤ 64 := by omega
      have k2 : (0 : Int) ≤ 64 - (kk : Int) := by omega
      have h64 : (kk : Int) < 64 := by omega
      have HQ := Lib.hid hq
      have HS := Lib.hid d5
      have HST := Lib.hid True.intro
      clear hq d5 hst
      cases tt with
      | true =>
        have HTN := Lib.hid (show (true || decide (Z ≠ 0)) = true from rfl)
        go_upto_region 8 with fail
        obtain ⟨W2, hW2, x2, r2, b2⟩ : ∃ W2, _ = W2 ∧ NBox W2 B h l E true ∧ NBox W2 (B + 1) 0 0 0 false ∧ Below B w W2 := ⟨_, rfl, x1.stored3 true, r1.only (only_set1 _ B 3 _) (by omega), b1.trans ((only_set1 _ B 3 _).below (Nat.le_refl _))⟩
        rw [hW2]
        clear hW2 x1 r1 b1 c0 c1 c2 c3 g0 g1 g2 g3
        have c0 := x2.c0
        have c1 := x2.c1
        have c2 := x2.c2
        have c3 := x2.c3
        have g0 := x2.f 0
        have g1 := x2.f 1
        go_region
        go_upto_region 10 with fail
        obtain ⟨W3, hW3, x3, r3, b3⟩ : ∃ W3, ((W2.setCell ⟨B, 1, none⟩ (.int .u64 S)).setCell ⟨B, 0, none⟩ (.int .u64 Q)).drew = W3 ∧ NBox W3 B Q S E true ∧ NBox W3 (B + 1) 0 0 0 false ∧ Below B w W3 := ⟨_, rfl, (x2.stored10 Q S).drew, (r2.only (((Only.refl B _).setCell _ _).setCell _ _) (by omega)).drew, (b2.trans ((((Only.refl B _).setCell _ _).setCell _ _).below (Nat.le_refl _))).drew⟩
        rw [hW3]
        clear hW3 x2 r2 b2 c0 c1 c2 c3 g0 g1
        have c0 := x3.c0
        have c1 := x3.c1
        have c2 := x3.c2
        have c3 := x3.c3
        have q0 := r3.c0
        have q1 := r3.c1
        have q2 := r3.c2
        have q3 := r3.c3
        have p0 := r3.f 0
        have p1 := r3.f 1
        have p2 := r3.f 2
        have p3 := r3.f 3
        have z := r3.stored Q S E true
        have z0 := z.c0
        have z1 := z.c1
        have z2 := z.c2
        have z3 := z.c3
        have B1 := Lib.hid (b3.trans ((only_nset4 W3 (B + 1) (.int .u64 Q) (.int .u64 S) (.int .i64 E) (.bool true)).below (B := B) (by omega)))
        clear z x3 r3 b3
        go_wp2
        refine bodyPost_ret (v := .agg #[.int .u64 Q, .int .u64 S, .int .i64 E, .bool true]) (by simp [results, Tryz.results121, go_sem, z0, z1, z2, z3]) rfl ⟨Q, S, ?_, D1.out, HQ.out, HS.out, ?_⟩
        · rw [HE.out, ← D2.out, HTN.out]
        · show Below _ _ _
          rw [HBe.out]
          exact B1.out
      | false =>
        by_cases hZ : Z = 0
        · have HTN := Lib.hid (show (false || decide (Z ≠ 0)) = false by rw [hZ]; rfl)
          have hZ : ((Z : Int) != 0) = false := by rw [bne_eq_false_iff_eq]; omega
          go_upto_region 8 with fail
          obtain ⟨W2, hW2, x2, r2, b2⟩ : ∃ W2, _ = W2 ∧ NBox W2 B h l E false ∧ NBox W2 (B + 1) 0 0 0 false ∧ Below B w W2 := ⟨_, rfl, x1.stored3 false, r1.only (only_set1 _ B 3 _) (by omega), b1.trans ((only_set1 _ B 3 _).below (Nat.le_refl _))⟩
          rw [hW2]
          clear hW2 x1 r1 b1 c0 c1 c2 c3 g0 g1 g2 g3
          have c0 := x2.c0
          have c1 := x2.c1
          have c2 := x2.c2
          have c3 := x2.c3
          have g0 := x2.f 0
          have g1 := x2.f 1
          go_region
          go_upto_region 10 with fail
          obtain ⟨W3, hW3, x3, r3, b3⟩ : ∃ W3, ((W2.setCell ⟨B, 1, none⟩ (.int .u64 S)).setCell ⟨B, 0, none⟩ (.int .u64 Q)).drew = W3 ∧ NBox W3 B Q S E false ∧ NBox W3 (B + 1) 0 0 0 false ∧ Below B w W3 := ⟨_, rfl, (x2.stored10 Q S).drew, (r2.only (((Only.refl B _).setCell _ _).setCell _ _) (by omega)).drew, (b2.trans ((((Only.refl B _).setCell _ _).setCell _ _).below (Nat.le_refl _))).drew⟩
          rw [hW3]
          clear hW3 x2 r2 b2 c0 c1 c2 c3 g0 g1
          have c0 := x3.c0
          have c1 := x3.c1
          have c2 := x3.c2
          have c3 := x3.c3
          have q0 := r3.c0
          have q1 := r3.c1
          have q2 := r3.c2
          have q3 := r3.c3
          have p0 := r3.f 0
          have p1 := r3.f 1
          have p2 := r3.f 2
          have p3 := r3.f 3
          have z := r3.stored Q S E false
          have z0 := z.c0
          have z1 := z.c1
          have z2 := z.c2
          have z3 := z.c3
          have B1 := Lib.hid (b3.trans ((only_nset4 W3 (B + 1) (.int .u64 Q) (.int .u64 S) (.int .i64 E) (.bool false)).below (B := B) (by omega)))
          clear z x3 r3 b3
          go_wp2
          refine bodyPost_ret (v := .agg #[.int .u64 Q, .int .u64 S, .int .i64 E, .bool false]) (by simp [results, Tryz.results121, go_sem, z0, z1, z2, z3]) rfl ⟨Q, S, ?_, D1.out, HQ.out, HS.out, ?_⟩
          · rw [HE.out, ← D2.out, HTN.out]
          · show Below _ _ _
            rw [HBe.out]
            exact B1.out
        · have HTN := Lib.hid (show (false || decide (Z ≠ 0)) = true by simp [hZ])
          have hZ : ((Z : Int) != 0) = true := by rw [bne_iff_ne]; omega
          go_upto_region 8 with fail
          obtain ⟨W2, hW2, x2, r2, b2⟩ : ∃ W2, _ = W2 ∧ NBox W2 B h l E true ∧ NBox W2 (B + 1) 0 0 0 false ∧ Below B w W2 := ⟨_, rfl, x1.stored3 true, r1.only (only_set1 _ B 3 _) (by omega), b1.trans ((only_set1 _ B 3 _).below (Nat.le_refl _))⟩
          rw [hW2]
          clear hW2 x1 r1 b1 c0 c1 c2 c3 g0 g1 g2 g3
          have c0 := x2.c0
          have c1 := x2.c1
          have c2 := x2.c2
          have c3 := x2.c3
          have g0 := x2.f 0
          have g1 := x2.f 1
          go_region
          go_upto_region 10 with fail
          obtain ⟨W3, hW3, x3, r3, b3⟩ : ∃ W3, ((W2.setCell ⟨B, 1, none⟩ (.int .u64 S)).setCell ⟨B, 0, none⟩ (.int .u64 Q)).drew = W3 ∧ NBox W3 B Q S E true ∧ NBox W3 (B + 1) 0 0 0 false ∧ Below B w W3 := ⟨_, rfl, (x2.stored10 Q S).drew, (r2.only (((Only.refl B _).setCell _ _).setCell _ _) (by omega)).drew, (b2.trans ((((Only.refl B _).setCell _ _).setCell _ _).below (Nat.le_refl _))).drew⟩
          rw [hW3]
          clear hW3 x2 r2 b2 c0 c1 c2 c3 g0 g1
          have c0 := x3.c0
          have c1 := x3.c1
          have c2 := x3.c2
          have c3 := x3.c3
          have q0 := r3.c0
          have q1 := r3.c1
          have q2 := r3.c2
          have q3 := r3.c3
          have p0 := r3.f 0
          have p1 := r3.f 1
          have p2 := r3.f 2
          have p3 := r3.f 3
          have z := r3.stored Q S E true
          have z0 := z.c0
          have z1 := z.c1
          have z2 := z.c2
          have z3 := z.c3
          have B1 := Lib.hid (b3.trans ((only_nset4 W3 (B + 1) (.int .u64 Q) (.int .u64 S) (.int .i64 E) (.bool true)).below (B := B) (by omega)))
          clear z x3 r3 b3
          go_wp2
          refine bodyPost_ret (v := .agg #[.int .u64 Q, .int .u64 S, .int .i64 E, .bool true]) (by simp [results, Tryz.results121, go_sem, z0, z1, z2, z3]) rfl ⟨Q, S, ?_, D1.out, HQ.out, HS.out, ?_⟩
          · rw [HE.out, ← D2.out, HTN.out]
          · show Below _ _ _
            rw [HBe.out]
            exact B1.out
end Go.Proofs.YtapcecjbmcoliaaGreatDoor
