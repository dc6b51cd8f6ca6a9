import Derived.Test.YtapcecjbmcoliaaGreatDoorACauU16
import Derived.Test.YtapcecjbmcoliaaGreatDoorACauU7
import Derived.Deep.CutRange
import Derived.Deep.CutBlock
import Derived.Test.YtapcecjbmcoliaaGreatDoorACauU0
import Derived.Test.YtapcecjbmcoliaaGreatDoorACauU2
import Derived.Deep.RegionHeld3
namespace Go.Proofs.YtapcecjbmcoliaaGreatDoor
open Go.RowKit

def faddF (a b : Nat) (mode : Int) : Nat := fmaF a 4607182418800017408 b mode
set_option maxRecDepth 100000 in
theorem fadd_any (a b : Nat) (mode : Int) (ha : a < 18446744073709551616) (hb : b < 18446744073709551616) (w : World) :
    Calls Tryz.prog 36 #[.int .u64 (a : Int), .int .u64 (b : Int), .int .i64 mode] w fun r w' => r = .returned (.int .u64 ((faddF a b mode : Nat) : Int)) ∧ Ext w w' := by
  unfold faddF
  have C := ffma_any a 4607182418800017408 b mode ha (by omega) hb
  generalize fmaF a 4607182418800017408 b mode = R at *
  rw [show ((4607182418800017408 : Nat) : Int) = 4607182418800017408 from rfl] at C
  have C := Lib.hid C
  go_enter Tryz.func36, Tryz.ntmps36
  go_wp2_with fail
  refine (C.out _).mono ?_
  rintro r w1 ⟨rfl, hE⟩
  go_wp2
  go_ret
  exact ⟨rfl, hE⟩

end Go.Proofs.YtapcecjbmcoliaaGreatDoor

namespace Go.Proofs.YtapcecjbmcoliaaGreatDoor

theorem fz_one : fz 4607182418800017408 = 2 ^ low74 := by decide +kernel

theorem one_facts : nanB 4607182418800017408 = false ∧ infB 4607182418800017408 = false ∧ zeroB 4607182418800017408 = false ∧ fneg 4607182418800017408 = false := by decide +kernel

end Go.Proofs.YtapcecjbmcoliaaGreatDoor

namespace Go.Proofs.YtapcecjbmcoliaaGreatDoor

theorem zero_not {a : Nat} (hz : zeroB a = true) : nanB a = false ∧ infB a = false ∧ fmag a = 0 ∧ fz a = 0 := by
  have hm : fmag a = 0 := of_decide_eq_true hz
  exact ⟨decide_eq_false (by omega), decide_eq_false (by omega), hm, (fz_zero a).2 hm⟩
theorem inf_not {a : Nat} (hi : infB a = true) : nanB a = false ∧ zeroB a = false := by
  have hm : fmag a = 9218868437227405312 := of_decide_eq_true hi
  exact ⟨decide_eq_false (by omega), decide_eq_false (by omega)⟩
theorem xor_false (b : Bool) : (b != false) = b := by cases b <;> rfl

/-- a sum, written out -/
theorem add_form (a b : Nat) (mode : Int) : fmaF a 4607182418800017408 b mode =
    if nanB a || nanB b then 9221120237041090560
    else if infB a && infB b && decide (b ≠ 9218868437227405312 + sgz (fneg a)) then 9221120237041090560
    else if infB a then 9218868437227405312 + sgz (fneg a)
    else if zeroB a && zeroB b && decide (b ≠ sgz (fneg a)) then cancel mode
    else if infB b || zeroB a then b
    else rsum (sgi (fneg a) (fz a * 2 ^ low74) + sgi (fneg b) (fz b * 2 ^ low74)) (-2148) mode := by
  obtain ⟨o1, o2, o3, o4⟩ := one_facts
  unfold fmaF
  rw [o1, o2, o3, o4, xor_false, fz_one]
  simp only [Bool.or_false]
  by_cases h : infB a = true
  · obtain ⟨h1, h2⟩ := inf_not h
    rw [h, h1, h2]
    simp
  · rw [Bool.not_eq_true] at h
    rw [h]
    simp

end Go.Proofs.YtapcecjbmcoliaaGreatDoor

namespace Go.Proofs.YtapcecjbmcoliaaGreatDoor

structure Dig (u a b d : Int) : Prop where
  a0 : 2147483648 ≤ a
  a1 : a < 4294967296
  b0 : 0 ≤ b
  b1 : b < 4294967296
  u0 : 0 ≤ u
  u1 : u < a * 4294967296 + b
  d0 : 0 ≤ d
  d1 : d < 4294967296

/-- the digit -/
def digQ (u a b d : Int) : Int := (u * 4294967296 + d) / (a * 4294967296 + b)
/-- what is left -/
def digR (u a b d : Int) : Int := (u * 4294967296 + d) % (a * 4294967296 + b)

section
variable {u a b d : Int}
theorem Dig.pos (h : Dig u a b d) : 0 < a * 4294967296 + b := by have := h.a0; have := h.b0; omega
theorem Dig.q0 (h : Dig u a b d) : 0 ≤ digQ u a b d := by
  have := h.u0; have := h.d0
  exact Int.ediv_nonneg (by omega) (Int.le_of_lt h.pos)
theorem Dig.q1 (h : Dig u a b d) : digQ u a b d < 4294967296 := by
  have h1 := h.u1; have h2 := h.d1
  refine (Int.ediv_lt_iff_lt_mul h.pos).2 ?_
  omega
theorem Dig.start (h : Dig u a b d) : digQ u a b d ≤ u / a ∧ u / a ≤ 4294967297 ∧ 0 ≤ u / a ∧ u - u / a * a = u % a ∧ 0 ≤ u % a ∧ u % a < a := by
  have a0 := h.a0; have a1 := h.a1; have b0 := h.b0; have b1 := h.b1; have u0 := h.u0; have u1 := h.u1; have d0 := h.d0; have d1 := h.d1
  have e := Int.mul_ediv_add_emod u a
  have r0 := Int.emod_nonneg u (show a ≠ 0 by omega)
  have r1 := Int.emod_lt_of_pos u (show 0 < a by omega)
  have q0 : 0 ≤ u / a := Int.ediv_nonneg u0 (by omega)
  refine ⟨?_, ?_, q0, by rw [Int.mul_comm]; omega, r0, r1⟩
  · have h1 : digQ u a b d < u / a + 1 := by
      refine (Int.ediv_lt_iff_lt_mul h.pos).2 ?_
      have e2 : (u / a + 1) * (a * 4294967296 + b) = (a * (u / a) + a) * 4294967296 + (u / a + 1) * b := by
        rw [Int.mul_add, ← Int.mul_assoc, Int.add_mul (u / a) 1 a, Int.one_mul, Int.mul_comm (u / a) a]
      have e3 : 0 ≤ (u / a + 1) * b := Int.mul_nonneg (by omega) b0
      rw [e2]
      omega
    omega
  · have h1 : u / a < 4294967298 := by
      refine (Int.ediv_lt_iff_lt_mul (by omega)).2 ?_
      omega
    omega
/-- what the words give for the rest -/
theorem Dig.rest (h : Dig u a b d) (D : Int) (hD : D = a * 4294967296 + b) : IntKind.u64.wrap (IntKind.u64.wrap (IntKind.u64.wrap (u * 4294967296) + d) - IntKind.u64.wrap (digQ u a b d * D)) = digR u a b d ∧ 0 ≤ digR u a b d ∧ digR u a b d < D := by
  have e := Int.mul_ediv_add_emod (u * 4294967296 + d) D
  have r0 := Int.emod_nonneg (u * 4294967296 + d) (show D ≠ 0 by have := h.pos; omega)
  have r1 := Int.emod_lt_of_pos (u * 4294967296 + d) (show 0 < D by have := h.pos; omega)
  have a1 := h.a1; have b1 := h.b1
  unfold digQ digR
  rw [← hD]
  refine ⟨?_, r0, r1⟩
  rw [Int.mul_comm (_ / _) D]
  generalize D * ((u * 4294967296 + d) / D) = p at *
  generalize (u * 4294967296 + d) % D = r at *
  simp only [IntKind.wrap_u64]
  omega
end

end Go.Proofs.YtapcecjbmcoliaaGreatDoor

namespace Go.Proofs.YtapcecjbmcoliaaGreatDoor
open Go.RowKit

/-- the normalized operands of a quotient -/
structure QuF (hx lx ly X1 X0 i Y1 j : Nat) : Prop where
  ex : X1 * 18446744073709551616 + X0 = (hx * 18446744073709551616 + lx) * 2 ^ i
  ey : Y1 * 18446744073709551616 = ly * 2 ^ j
  x0 : 9223372036854775808 ≤ X1
  x1 : X1 < 18446744073709551616
  x2 : X0 < 18446744073709551616
  y0 : 9223372036854775808 ≤ Y1
  y1 : Y1 < 18446744073709551616
  i1 : i ≤ 127
  j1 : j ≤ 127

end Go.Proofs.YtapcecjbmcoliaaGreatDoor

namespace Go.Proofs.YtapcecjbmcoliaaGreatDoor

theorem sgn3_zero {x : Int} (h : sgn3 x 0 = 0) : x = 0 := by unfold sgn3 at h; split at h <;> (try split at h) <;> omega
theorem sgn3_nonneg {x : Int} (h : 0 ≤ x) : 0 ≤ sgn3 x 0 := by unfold sgn3; split <;> (try split) <;> omega
end Go.Proofs.YtapcecjbmcoliaaGreatDoor

namespace Go.Proofs.YtapcecjbmcoliaaGreatDoor
open Go.RowKit

theorem len_zero_iff {a k : Nat} (h : (limbs a).length = k) : k = 0 ↔ a = 0 := by
  subst h
  constructor
  · intro h; exact limbs_inj (by rw [limbs_zero]; exact List.eq_nil_of_length_eq_zero h)
  · rintro rfl; simp [limbs_zero]

set_option maxRecDepth 100000 in
set_option maxHeartbeats 1000000 in
theorem sign_any (nb : Bool) (ao : Option Addr) (n ca : Nat) (x : Int) (w : World) (h : Bg w nb ao n ca x) :
    Calls Tryz.prog 22 #[.agg #[.bool nb, .slice ao n ca]] w fun e w' => e = .returned (.int .i64 (sgn3 x 0)) ∧ Below w.heap.size w w' := by
  obtain ⟨⟨zs, hs, hx⟩, hsm⟩ := h
  have hx' := Lib.hid hx; clear hx
  obtain ⟨k, hk, hs1, ht⟩ := trim_at _ _ _ _ _ hs
  have hn0 := num_nonneg hs.wf
  have h0 := len_zero_iff hs1.len
  have HT := Lib.hid ht; clear ht
  have hsc := Lib.hid (Sl.below hs (((Below.refl w.heap.size w).alloc (Nat.le_refl _) (.cells #[.bool nb, .slice ao n ca] 27))))
  clear hs1
  by_cases hz : k = 0
  · have hx0 : sgn3 x 0 = 0 := by
      have e := h0.1 hz
      have e2 : num zs = 0 := by omega
      rw [hx'.out]; simp [sgd, sgn3, e2]
    have HX := Lib.hid hx0; clear hx0 h0
    subst hz
    go_enter Tryz.func22, Tryz.ntmps22
    go_wp2_with fail
    refine (HT.out _ hsc.out).mono ?_
    rintro e w1 ⟨rfl, rfl⟩
    go_wp2
    go_ret
    exact ⟨by rw [HX.out]; rfl, (Below.refl _ w).alloc (Nat.le_refl _) _⟩
  · have hpos : 0 < num zs := by
      have : (num zs).toNat ≠ 0 := fun e => hz (h0.2 e)
      omega
    have hk0 : ((k : Int) == 0) = false := beq_eq_false_iff_ne.2 (by omega)
    clear h0 hz
    cases nb with
    | true =>
      have hx0 : sgn3 x 0 = -1 := by rw [hx'.out]; simp [sgd, sgn3]; omega
      have HX := Lib.hid hx0; clear hx0 hpos hn0
      go_enter Tryz.func22, Tryz.ntmps22
      go_wp2_with fail
      refine (HT.out _ hsc.out).mono ?_
      rintro e w1 ⟨rfl, rfl⟩
      go_wp2
      go_ret
      exact ⟨by rw [HX.out]; rfl, (Below.refl _ w).alloc (Nat.le_refl _) _⟩
    | false =>
      have hx0 : sgn3 x 0 = 1 := by rw [hx'.out]; simp [sgd, sgn3]; omega
      have HX := Lib.hid hx0; clear hx0 hpos hn0
      go_enter Tryz.func22, Tryz.ntmps22
      go_wp2_with fail
      refine (HT.out _ hsc.out).mono ?_
      rintro e w1 ⟨rfl, rfl⟩
      go_wp2
      go_ret
      exact ⟨by rw [HX.out]; rfl, (Below.refl _ w).alloc (Nat.le_refl _) _⟩
end Go.Proofs.YtapcecjbmcoliaaGreatDoor

namespace Go.Proofs.YtapcecjbmcoliaaGreatDoor
open Go.RowKit

theorem Bg.drew {w : World} {nb : Bool} {ao : Option Addr} {n cap : Nat} {x : Int} (h : Bg w nb ao n cap x) : Bg w.drew nb ao n cap x := h.below (Below.refl _ _).drew

theorem sgn3_bd (x y : Int) : -1 ≤ sgn3 x y ∧ sgn3 x y ≤ 1 := by unfold sgn3; omega

theorem sgn3_signs {x y : Int} (h : sgn3 x 0 ≠ sgn3 y 0) : sgn3 (sgn3 x 0) (sgn3 y 0) = sgn3 x y := by
  unfold sgn3 at *
  repeat' split
  all_goals first | omega | (simp_all; done) | (exfalso; simp_all; omega)

theorem sgn3_mags {nb mb : Bool} {zs ys : List Int} {x y : Int} (hz : Wf zs) (hy : Wf ys) (ex : x = sgd nb zs) (ey : y = sgd mb ys) (h : sgn3 x 0 = sgn3 y 0) :
    (if nb then - sgn3 (num zs).toNat (num ys).toNat else sgn3 (num zs).toNat (num ys).toNat) = sgn3 x y := by
  have a := num_nonneg hz
  have b := num_nonneg hy
  rw [Int.toNat_of_nonneg a, Int.toNat_of_nonneg b]
  subst ex ey
  unfold sgd at *
  unfold sgn3 at *
  generalize num zs = p at *
  generalize num ys = q at *
  cases nb <;> cases mb <;> simp only [Bool.false_eq_true, if_true, if_false] at h ⊢ <;> omega

set_option maxRecDepth 100000 in
set_option maxHeartbeats 4000000 in
theorem cmp_any (nb mb : Bool) (ao : Option Addr) (n ca : Nat) (bo : Option Addr) (m cb : Nat) (x y : Int) (w : World) (ha : Bg w nb ao n ca x) (hb : Bg w mb bo m cb y) :
    Calls Tryz.prog 26 #[.agg #[.bool nb, .slice ao n ca], .agg #[.bool mb, .slice bo m cb]] w fun e w' => e = .returned (.int .i64 (sgn3 x y)) ∧ Below w.heap.size w w' := by
  go_enter Tryz.func26, Tryz.ntmps26
  go_wp2_with fail
  obtain ⟨W, hW, hB, hbx, hby⟩ : ∃ W, W = (w.alloc (.cells #[.bool nb, .slice ao n ca] 27)).alloc (.cells #[.bool mb, .slice bo m cb] 27) ∧ Below w.heap.size w W ∧
      Box W w.heap.size nb ao n ca ∧ Box W (w.heap.size + 1) mb bo m cb := by
    refine ⟨_, rfl, ((Below.refl _ w).alloc (Nat.le_refl _) _).alloc (by simp) _, ?_, ?_⟩
    · exact (Box.new w nb ao n ca).below ((Below.refl _ _).alloc (Nat.le_refl _) _)
    · have := Box.new (w.alloc (.cells #[.bool nb, .slice ao n ca] 27)) mb bo m cb
      simpa using this
  rw [← hW]
  clear hW
  have ha0 := ha.below hB
  have hb0 := hb.below hB
  generalize hBe : w.heap.size = B at *
  have HBe := Lib.hid hBe; clear hBe
  have hBelow := Lib.hid hB
  clear ha hb hB
  have k0 := hbx.c0
  have k1 := hbx.c1
  have l0 := hby.c0
  have l1 := hby.c1
  go_region_held3 (fun w' => w'.cell? ⟨B, 0, none⟩ = some (.bool nb) ∧ w'.cell? ⟨B, 1, none⟩ = some (.slice ao n ca) ∧ w'.cell? ⟨B + 1, 0, none⟩ = some (.bool mb) ∧ w'.cell? ⟨B + 1, 1, none⟩ = some (.slice bo m cb))
    (first | exact ⟨k0, k1, l0, l1⟩ | exact ⟨xa.c0, xa.c1, ya.c0, ya.c1⟩ | exact ⟨xb.c0, xb.c1, yb.c0, yb.c1⟩)
    (first
      | (go_at_call 22; first
          | ((with_reducible refine (sign_any nb ao n ca x _ (by first | exact ha0.drew | exact ha0.drew.below hwb)).mono ?_); rintro e wa ⟨rfl, hwa⟩; first | (have xa := hbx.drew.below hwa; have ya := hby.drew.below hwa) | (have xa := xb.below hwa; have ya := yb.below hwa))
          | ((with_reducible refine (sign_any mb bo m cb y _ (by first | exact hb0.drew | exact hb0.drew.below hwa)).mono ?_); rintro e wb ⟨rfl, hwb⟩; first | (have xb := hbx.drew.below hwb; have yb := hby.drew.below hwb) | (have xb := xa.below hwb; have yb := ya.below hwb))))
  obtain ⟨bA, lA⟩ := bnext hBelow.out (by have := hbx.lt; omega) (Below.refl _ W).drew
  obtain ⟨b1, l1'⟩ := bnext bA lA hwa
  obtain ⟨b2, l2'⟩ := bnext b1 l1' hwb
  have hA := (ha0.drew.below hwa).below hwb
  have hBb := (hb0.drew.below hwa).below hwb
  have b2' := Lib.hid b2
  clear hbx hby k0 k1 l0 l1 ha0 hb0 hBelow bA lA b1 l1' b2 hwa hwb xa ya
  by_cases hsg : sgn3 x 0 = sgn3 y 0
  · obtain ⟨⟨zs, hs, hx⟩, hsm⟩ := hA
    obtain ⟨⟨ys, hu, hy⟩, hum⟩ := hBb
    have hfin := sgn3_mags hs.wf hu.wf hx hy hsg
    have hne : (sgn3 x 0 != sgn3 y 0) = false := by simp [hsg]
    rw [hsg] at hne ⊢
    clear hx hy hsg
    obtain ⟨k1, hk1, hs1, ht1⟩ := trim_at _ _ _ _ _ hs
    obtain ⟨k2, hk2, hu1, ht2⟩ := trim_at _ _ _ _ _ hu
    generalize (num zs).toNat = a at hs1 hfin
    generalize (num ys).toNat = b at hu1 hfin
    have HF := Lib.hid hfin; clear hfin
    have HT1 := Lib.hid ht1; clear ht1
    have HT2 := Lib.hid ht2; clear ht2
    have k0 := xb.c0
    have k1' := xb.c1
    have l0 := yb.c0
    have l1' := yb.c1
    go_wp2_with fail
    go_quiet ((first | (go_at_call 46; first | (with_reducible exact quiet_left (HT1.out _ (by exact hs.drewN _))) | (with_reducible exact quiet_left (HT2.out _ (by exact hu.drewN _)))) | (go_at_call 50; exact Calls.quiet_of (compare_any _ _ _ _ _ _ _ _ _ (by exact hs1.drewN _) (by exact hu1.drewN _)))))
    cases nb with
    | true =>
      have HF2 : Hid (- sgn3 (a : Int) b = sgn3 x y) := HF.out
      obtain ⟨d1, d2⟩ := sgn3_bd (a : Int) (b : Int)
      go_wp2
      go_ret
      exact ⟨by rw [← HF2.out]; rfl, by rw [HBe.out]; exact below_drewN b2'.out _⟩
    | false =>
      have HF2 : Hid (sgn3 (a : Int) b = sgn3 x y) := HF.out
      go_wp2
      go_ret
      exact ⟨by rw [← HF2.out]; rfl, by rw [HBe.out]; exact below_drewN b2'.out _⟩
  · have hne : (sgn3 x 0 != sgn3 y 0) = true := by simp [hsg]
    have HS := Lib.hid hsg; clear hsg
    go_wp2_with (go_at_call 23; refine (cmpInt_any _ _ _).mono ?_; rintro e w' ⟨rfl, rfl⟩)
    go_ret
    refine ⟨?_, by rw [HBe.out]; exact b2'.out⟩
    rw [← sgn3_signs HS.out]; rfl
end Go.Proofs.YtapcecjbmcoliaaGreatDoor
