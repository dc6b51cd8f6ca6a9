import Derived.Test.YtecaaklbhhjcjaaGreatDoorIRelU12
import Derived.Test.YtecaaklbhhjcjaaGreatDoorIRelU2
import Derived.Deep.CutRange
import Derived.Deep.CutBlock
import Derived.Test.YtecaaklbhhjcjaaGreatDoorIRelU0
import Derived.Test.YtecaaklbhhjcjaaGreatDoorIRelU1
import Derived.Test.YtecaaklbhhjcjaaGreatDoorIRelU4
import Derived.Deep.RegionHeld3
import Derived.Laws.AppendOwn
import Derived.OwnWalk
namespace Go.Proofs.YtecaaklbhhjcjaaGreatDoor
open Go.RowKit

def faddF (a b : Nat) (mode : Int) : Nat := fmaF a 4607182418800017408 b mode
def fmulF (a b : Nat) (mode : Int) : Nat := fmaF a b (sgz (fneg a != fneg b)) mode

set_option maxRecDepth 100000 in
theorem fadd_any (a b : Nat) (mode : Int) (ha : a < 18446744073709551616) (hb : b < 18446744073709551616) (w : World) :
    Calls Tryz.prog 82 #[.int .u64 (a : Int), .int .u64 (b : Int), .int .i64 mode] w fun r w' => r = .returned (.int .u64 ((faddF a b mode : Nat) : Int)) ∧ Ext w w' := by
  unfold faddF
  have C := ffma_any a 4607182418800017408 b mode ha (by omega) hb
  generalize fmaF a 4607182418800017408 b mode = R at *
  rw [show ((4607182418800017408 : Nat) : Int) = 4607182418800017408 from rfl] at C
  have C := Lib.hid C
  go_enter Tryz.func82, Tryz.ntmps82
  go_wp2_with fail
  refine (C.out _).mono ?_
  rintro r w1 ⟨rfl, hE⟩
  go_wp2
  go_ret
  exact ⟨rfl, hE⟩

set_option maxRecDepth 100000 in
theorem fmul_any (a b : Nat) (mode : Int) (ha : a < 18446744073709551616) (hb : b < 18446744073709551616) (w : World) :
    Calls Tryz.prog 87 #[.int .u64 (a : Int), .int .u64 (b : Int), .int .i64 mode] w fun r w' => r = .returned (.int .u64 ((fmulF a b mode : Nat) : Int)) ∧ Ext w w' := by
  unfold fmulF
  have hx : a ^^^ b < 18446744073709551616 := Nat.xor_lt_two_pow (n := 64) (by omega) (by omega)
  have h1 := bits_xor_u64_nat a b ha hb
  have CS := signOf_any (a ^^^ b) hx
  rw [fneg_xor ha hb] at CS
  have C := ffma_any a b (sgz (fneg a != fneg b)) mode ha hb (by have := sgz_le (fneg a != fneg b); omega)
  generalize a ^^^ b = x at *
  generalize fmaF a b (sgz (fneg a != fneg b)) mode = R at *
  generalize sgz (fneg a != fneg b) = z at *
  have C := Lib.hid C
  have CS := Lib.hid CS
  go_enter Tryz.func87, Tryz.ntmps87
  go_wp2_with fail
  refine (CS.out _).mono ?_
  rintro r w1 ⟨rfl, rfl⟩
  go_wp2_with fail
  refine (C.out _).mono ?_
  rintro r w1 ⟨rfl, hE⟩
  go_wp2
  go_ret
  exact ⟨rfl, hE⟩

end Go.Proofs.YtecaaklbhhjcjaaGreatDoor

namespace Go.Proofs.YtecaaklbhhjcjaaGreatDoor

theorem fz_one : fz 4607182418800017408 = 2 ^ low74 := by decide +kernel

theorem one_facts : nanB 4607182418800017408 = false ∧ infB 4607182418800017408 = false ∧ zeroB 4607182418800017408 = false ∧ fneg 4607182418800017408 = false := by decide +kernel

/-- times one, and a zero added: the float itself, where it is not zero -/
theorem fma_one {a c : Nat} (mode : Int) (ha : a < 18446744073709551616) (hn : nanB a = false) (hz : zeroB a = false) (hc : fmag c = 0) (hc2 : nanB c = false) (hc3 : infB c = false) : fmaF a 4607182418800017408 c mode = a := by
  obtain ⟨o1, o2, o3, o4⟩ := one_facts
  have hp := f_parts ha
  have hx : (fneg a != false) = fneg a := by cases fneg a <;> rfl
  unfold fmaF
  rw [hn, hc2, o1, o2, o3, hz, hc3, o4, hx]
  simp only [Bool.or_false, Bool.and_false, Bool.false_eq_true, if_false, Bool.false_and]
  cases hi : infB a
  · simp only [Bool.false_eq_true, if_false]
    have hm : fmag a ≤ 9218868437227405312 := by
      have h1 : ¬ 9218868437227405312 < fmag a := of_decide_eq_false hn
      omega
    have hm2 : fmag a ≠ 9218868437227405312 := of_decide_eq_false hi
    have hm0 : fmag a ≠ 0 := of_decide_eq_false hz
    have hf0 : fz a ≠ 0 := fun h => hm0 ((fz_zero a).1 h)
    rw [(fz_zero c).2 hc, Nat.zero_mul, sgi_zero, Int.add_zero, fz_one]
    have hA : fz a * 2 ^ low74 ≠ 0 := Nat.mul_ne_zero hf0 (Nat.pos_iff_ne_zero.1 (Nat.pow_pos (by omega)))
    have hv := Num.unit (fz a) low74 (e := -1074) (m := -2148) (by decide)
    unfold rsum
    rw [if_neg (by unfold sgi; split <;> omega), rnd_sgi _ hA, ← hv.fla hf0, fla_fz _ hm0 (by omega)]
    exact hp.symm
  · simp only [if_true]
    have hm : fmag a = 9218868437227405312 := of_decide_eq_true hi
    rw [hm] at hp
    omega
end Go.Proofs.YtecaaklbhhjcjaaGreatDoor

namespace Go.Proofs.YtecaaklbhhjcjaaGreatDoor

theorem inf_val {a : Nat} (ha : a < 18446744073709551616) (hi : infB a = true) : 9218868437227405312 + sgz (fneg a) = a := by
  have hp := f_parts ha
  have hm : fmag a = 9218868437227405312 := of_decide_eq_true hi
  omega
theorem zero_val {a : Nat} (ha : a < 18446744073709551616) (hz : zeroB a = true) : sgz (fneg a) = a := by
  have hp := f_parts ha
  have hm : fmag a = 0 := of_decide_eq_true hz
  omega
theorem zero_not {a : Nat} (hz : zeroB a = true) : nanB a = false ∧ infB a = false ∧ fmag a = 0 ∧ fz a = 0 := by
  have hm : fmag a = 0 := of_decide_eq_true hz
  exact ⟨decide_eq_false (by omega), decide_eq_false (by omega), hm, (fz_zero a).2 hm⟩
theorem inf_not {a : Nat} (hi : infB a = true) : nanB a = false ∧ zeroB a = false := by
  have hm : fmag a = 9218868437227405312 := of_decide_eq_true hi
  exact ⟨decide_eq_false (by omega), decide_eq_false (by omega)⟩
theorem xor_false (b : Bool) : (b != false) = b := by cases b <;> rfl

/-- a sum, written out -/
theorem add_form (a b : Nat) (mode : Int) : fmaF a 4607182418800017408 b mode =
    if nanB a || nanB b then 9221120237041090560
    else if infB a && infB b && decide (b ≠ 9218868437227405312 + sgz (fneg a)) then 9221120237041090560
    else if infB a then 9218868437227405312 + sgz (fneg a)
    else if zeroB a && zeroB b && decide (b ≠ sgz (fneg a)) then cancel mode
    else if infB b || zeroB a then b
    else rsum (sgi (fneg a) (fz a * 2 ^ low74) + sgi (fneg b) (fz b * 2 ^ low74)) (-2148) mode := by
  obtain ⟨o1, o2, o3, o4⟩ := one_facts
  unfold fmaF
  rw [o1, o2, o3, o4, xor_false, fz_one]
  simp only [Bool.or_false]
  by_cases h : infB a = true
  · obtain ⟨h1, h2⟩ := inf_not h
    rw [h, h1, h2]
    simp
  · rw [Bool.not_eq_true] at h
    rw [h]
    simp

theorem faddF_comm {a b : Nat} (ha : a < 18446744073709551616) (hb : b < 18446744073709551616) (mode : Int) : faddF a b mode = faddF b a mode := by
  unfold faddF
  rw [add_form, add_form, Bool.or_comm (nanB b) (nanB a)]
  cases hna : nanB a
  · cases hnb : nanB b
    · simp only [Bool.or_false, Bool.false_eq_true, if_false]
      cases hia : infB a
      · cases hib : infB b
        · simp only [Bool.false_and, Bool.false_eq_true, if_false, Bool.false_or]
          cases hza : zeroB a
          · cases hzb : zeroB b
            · simp only [Bool.false_and, Bool.false_eq_true, if_false]
              rw [Int.add_comm]
            · simp only [Bool.false_and, Bool.and_false, Bool.false_eq_true, if_false, if_true]
              obtain ⟨h1, h2, h3, h4⟩ := zero_not hzb
              have := fma_one (c := b) mode ha hna hza h3 h1 h2
              rw [add_form, hna, hnb, hia, hza, hib] at this
              simpa using this
          · cases hzb : zeroB b
            · simp only [Bool.false_and, Bool.and_false, Bool.false_eq_true, if_false, if_true]
              obtain ⟨h1, h2, h3, h4⟩ := zero_not hza
              have := fma_one (c := a) mode hb hnb hzb h3 h1 h2
              rw [add_form, hna, hnb, hib, hzb, hia] at this
              simpa using this.symm
            · have e1 := zero_val ha hza
              have e2 := zero_val hb hzb
              rw [e1, e2]
              simp only [Bool.true_and, if_true]
              by_cases hab : a = b
              · subst hab; simp
              · rw [decide_eq_true (show b ≠ a from fun h => hab h.symm), decide_eq_true (show a ≠ b from hab)]
                simp
        · obtain ⟨h1, h2⟩ := inf_not hib
          rw [inf_val hb hib, h2]
          simp
      · obtain ⟨h1, h2⟩ := inf_not hia
        cases hib : infB b
        · rw [inf_val ha hia, h2]
          simp
        · rw [inf_val ha hia, inf_val hb hib]
          simp only [Bool.true_and, if_true]
          by_cases hab : a = b
          · subst hab; simp
          · rw [decide_eq_true (show b ≠ a from fun h => hab h.symm), decide_eq_true (show a ≠ b from hab)]
            simp
    · simp
  · simp

end Go.Proofs.YtecaaklbhhjcjaaGreatDoor

namespace Go.Proofs.YtecaaklbhhjcjaaGreatDoor

structure Dig (u a b d : Int) : Prop where
  a0 : 2147483648 ≤ a
  a1 : a < 4294967296
  b0 : 0 ≤ b
  b1 : b < 4294967296
  u0 : 0 ≤ u
  u1 : u < a * 4294967296 + b
  d0 : 0 ≤ d
  d1 : d < 4294967296

/-- the digit -/
def digQ (u a b d : Int) : Int := (u * 4294967296 + d) / (a * 4294967296 + b)
/-- what is left -/
def digR (u a b d : Int) : Int := (u * 4294967296 + d) % (a * 4294967296 + b)

section
variable {u a b d : Int}
theorem Dig.pos (h : Dig u a b d) : 0 < a * 4294967296 + b := by have := h.a0; have := h.b0; omega
theorem Dig.q0 (h : Dig u a b d) : 0 ≤ digQ u a b d := by
  have := h.u0; have := h.d0
  exact Int.ediv_nonneg (by omega) (Int.le_of_lt h.pos)
theorem Dig.q1 (h : Dig u a b d) : digQ u a b d < 4294967296 := by
  have h1 := h.u1; have h2 := h.d1
  refine (Int.ediv_lt_iff_lt_mul h.pos).2 ?_
  omega
theorem Dig.start (h : Dig u a b d) : digQ u a b d ≤ u / a ∧ u / a ≤ 4294967297 ∧ 0 ≤ u / a ∧ u - u / a * a = u % a ∧ 0 ≤ u % a ∧ u % a < a := by
  have a0 := h.a0; have a1 := h.a1; have b0 := h.b0; have b1 := h.b1; have u0 := h.u0; have u1 := h.u1; have d0 := h.d0; have d1 := h.d1
  have e := Int.mul_ediv_add_emod u a
  have r0 := Int.emod_nonneg u (show a ≠ 0 by omega)
  have r1 := Int.emod_lt_of_pos u (show 0 < a by omega)
  have q0 : 0 ≤ u / a := Int.ediv_nonneg u0 (by omega)
  refine ⟨?_, ?_, q0, by rw [Int.mul_comm]; omega, r0, r1⟩
  · have h1 : digQ u a b d < u / a + 1 := by
      refine (Int.ediv_lt_iff_lt_mul h.pos).2 ?_
      have e2 : (u / a + 1) * (a * 4294967296 + b) = (a * (u / a) + a) * 4294967296 + (u / a + 1) * b := by
        rw [Int.mul_add, ← Int.mul_assoc, Int.add_mul (u / a) 1 a, Int.one_mul, Int.mul_comm (u / a) a]
      have e3 : 0 ≤ (u / a + 1) * b := Int.mul_nonneg (by omega) b0
      rw [e2]
      omega
    omega
  · have h1 : u / a < 4294967298 := by
      refine (Int.ediv_lt_iff_lt_mul (by omega)).2 ?_
      omega
    omega
/-- what the words give for the rest -/
theorem Dig.rest (h : Dig u a b d) (D : Int) (hD : D = a * 4294967296 + b) : IntKind.u64.wrap (IntKind.u64.wrap (IntKind.u64.wrap (u * 4294967296) + d) - IntKind.u64.wrap (digQ u a b d * D)) = digR u a b d ∧ 0 ≤ digR u a b d ∧ digR u a b d < D := by
  have e := Int.mul_ediv_add_emod (u * 4294967296 + d) D
  have r0 := Int.emod_nonneg (u * 4294967296 + d) (show D ≠ 0 by have := h.pos; omega)
  have r1 := Int.emod_lt_of_pos (u * 4294967296 + d) (show 0 < D by have := h.pos; omega)
  have a1 := h.a1; have b1 := h.b1
  unfold digQ digR
  rw [← hD]
  refine ⟨?_, r0, r1⟩
  rw [Int.mul_comm (_ / _) D]
  generalize D * ((u * 4294967296 + d) / D) = p at *
  generalize (u * 4294967296 + d) % D = r at *
  simp only [IntKind.wrap_u64]
  omega
end

end Go.Proofs.YtecaaklbhhjcjaaGreatDoor

namespace Go.Proofs.YtecaaklbhhjcjaaGreatDoor
open Go.RowKit

/-- the normalized operands of a quotient -/
structure QuF (hx lx ly X1 X0 i Y1 j : Nat) : Prop where
  ex : X1 * 18446744073709551616 + X0 = (hx * 18446744073709551616 + lx) * 2 ^ i
  ey : Y1 * 18446744073709551616 = ly * 2 ^ j
  x0 : 9223372036854775808 ≤ X1
  x1 : X1 < 18446744073709551616
  x2 : X0 < 18446744073709551616
  y0 : 9223372036854775808 ≤ Y1
  y1 : Y1 < 18446744073709551616
  i1 : i ≤ 127
  j1 : j ≤ 127

end Go.Proofs.YtecaaklbhhjcjaaGreatDoor

namespace Go.Proofs.YtecaaklbhhjcjaaGreatDoor

theorem sgn3_zero {x : Int} (h : sgn3 x 0 = 0) : x = 0 := by unfold sgn3 at h; split at h <;> (try split at h) <;> omega
theorem sgn3_nonneg {x : Int} (h : 0 ≤ x) : 0 ≤ sgn3 x 0 := by unfold sgn3; split <;> (try split) <;> omega
end Go.Proofs.YtecaaklbhhjcjaaGreatDoor

namespace Go.Proofs.YtecaaklbhhjcjaaGreatDoor
open Go.RowKit

theorem len_zero_iff {a k : Nat} (h : (limbs a).length = k) : k = 0 ↔ a = 0 := by
  subst h
  constructor
  · intro h; exact limbs_inj (by rw [limbs_zero]; exact List.eq_nil_of_length_eq_zero h)
  · rintro rfl; simp [limbs_zero]

set_option maxRecDepth 100000 in
set_option maxHeartbeats 1000000 in
theorem sign_any (nb : Bool) (ao : Option Addr) (n ca : Nat) (x : Int) (w : World) (h : Bg w nb ao n ca x) :
    Calls Tryz.prog 124 #[.agg #[.bool nb, .slice ao n ca]] w fun e w' => e = .returned (.int .i64 (sgn3 x 0)) ∧ Below w.heap.size w w' := by
  obtain ⟨⟨zs, hs, hx⟩, hsm⟩ := h
  have hx' := Lib.hid hx; clear hx
  obtain ⟨k, hk, hs1, ht⟩ := trim_at _ _ _ _ _ hs
  have hn0 := num_nonneg hs.wf
  have h0 := len_zero_iff hs1.len
  have HT := Lib.hid ht; clear ht
  have hsc := Lib.hid (Sl.below hs (((Below.refl w.heap.size w).alloc (Nat.le_refl _) (.cells #[.bool nb, .slice ao n ca] 24))))
  clear hs1
  by_cases hz : k = 0
  · have hx0 : sgn3 x 0 = 0 := by
      have e := h0.1 hz
      have e2 : num zs = 0 := by omega
      rw [hx'.out]; simp [sgd, sgn3, e2]
    have HX := Lib.hid hx0; clear hx0 h0
    subst hz
    go_enter Tryz.func124, Tryz.ntmps124
    go_wp2_with fail
    refine (HT.out _ hsc.out).mono ?_
    rintro e w1 ⟨rfl, rfl⟩
    go_wp2
    go_ret
    exact ⟨by rw [HX.out]; rfl, (Below.refl _ w).alloc (Nat.le_refl _) _⟩
  · have hpos : 0 < num zs := by
      have : (num zs).toNat ≠ 0 := fun e => hz (h0.2 e)
      omega
    have hk0 : ((k : Int) == 0) = false := beq_eq_false_iff_ne.2 (by omega)
    clear h0 hz
    cases nb with
    | true =>
      have hx0 : sgn3 x 0 = -1 := by rw [hx'.out]; simp [sgd, sgn3]; omega
      have HX := Lib.hid hx0; clear hx0 hpos hn0
      go_enter Tryz.func124, Tryz.ntmps124
      go_wp2_with fail
      refine (HT.out _ hsc.out).mono ?_
      rintro e w1 ⟨rfl, rfl⟩
      go_wp2
      go_ret
      exact ⟨by rw [HX.out]; rfl, (Below.refl _ w).alloc (Nat.le_refl _) _⟩
    | false =>
      have hx0 : sgn3 x 0 = 1 := by rw [hx'.out]; simp [sgd, sgn3]; omega
      have HX := Lib.hid hx0; clear hx0 hpos hn0
      go_enter Tryz.func124, Tryz.ntmps124
      go_wp2_with fail
      refine (HT.out _ hsc.out).mono ?_
      rintro e w1 ⟨rfl, rfl⟩
      go_wp2
      go_ret
      exact ⟨by rw [HX.out]; rfl, (Below.refl _ w).alloc (Nat.le_refl _) _⟩
end Go.Proofs.YtecaaklbhhjcjaaGreatDoor

namespace Go.Proofs.YtecaaklbhhjcjaaGreatDoor
open Go.RowKit

theorem Bg.drew {w : World} {nb : Bool} {ao : Option Addr} {n cap : Nat} {x : Int} (h : Bg w nb ao n cap x) : Bg w.drew nb ao n cap x := h.below (Below.refl _ _).drew

end Go.Proofs.YtecaaklbhhjcjaaGreatDoor

namespace Go.Proofs.YtecaaklbhhjcjaaGreatDoor
open Go Go.RowKit

/-- the value v holds the limbs L in memory of the call's own, in blocks from B on -/
def Own (w : World) (B : Nat) (v : Value) (L : List Int) : Prop := w.ownsRow B 63 1 v L.length (L.map (Value.int .u32))

theorem Own.nil (w : World) (B : Nat) : Own w B (.slice none 0 0) [] := ⟨rfl, Or.inl ⟨rfl, rfl⟩⟩

theorem Own.sl {w : World} {B : Nat} {v : Value} {L : List Int} (h : Own w B v L) (hw : Wf L) (hn : L.length ≤ 1099511627776) : ∃ ao cap, v = .slice ao L.length cap ∧ Sl w ao L.length cap L := by
  have h' := h
  obtain ⟨h1, h2⟩ := h
  rcases h2 with ⟨hv, h0⟩ | ⟨g, cap, cur, hv, hb, hg, hc, hm, hs, ht⟩
  · have hL : L = [] := List.eq_nil_of_length_eq_zero h0
    subst hL
    exact ⟨none, 0, hv, Sl.nil w⟩
  · refine ⟨some ⟨g, 0, none⟩, cap, hv, rfl, hc, hn, hw, fun h0 => ⟨g, 0, rfl, fun j hj => ?_⟩⟩
    subst hv
    have := h'.cellAt j (by omega)
    rw [Nat.zero_add, this, List.getElem?_map, List.getElem?_eq_getElem hj, ← getD_at hj]
    rfl

theorem Own.mono {w : World} {B C : Nat} {v : Value} {L : List Int} (h : Own w B v L) (hC : C ≤ B) : Own w C v L :=
  ⟨h.1, h.2.imp id fun ⟨g, cap, cur, hv, hb, r⟩ => ⟨g, cap, cur, hv, Nat.le_trans hC hb, r⟩⟩

/-- 'append(out, x)' -/
theorem wpList_append_u32 (w0 : World) {ops : Array Oper} {rest : List Oper} {o : Oper} {a : Act} {Q : Exit → Act → World → Prop} (hgd : o.guard = none) (s x : Operand)
    (ho : o.op = .call { callee := .builtin .append, args := #[s, x], argTypes := #[22, 22] })
    (B : Nat) (v : Value) (L : List Int) (y : Int) (hs : a.eval s = v) (hx : a.eval x = .slice (some ⟨w0.heap.size, 0, none⟩) 1 1) (hown : Own w0 B v L) (hB : B ≤ w0.heap.size) (hL : L.length ≤ 1099511627776)
    (h : ∀ v' w', Own w' B v' (L ++ [y]) → Below B w0 w' → wpList Tryz.prog ops Q rest (a.put o.dst v') w') : wpList Tryz.prog ops Q (o :: rest) a (w0.alloc (.cells #[.int .u32 y] 63)) := by
  obtain ⟨i0, hi, hz0, hz1, hz2⟩ := info_parts Tryz.infoU32
  refine wpList_append_own _ hgd s x 22 ho B 63 i0 (.int .u32 0) 1 4 Tryz.underlying22 hi hz0 hz1 hz2 rfl (by decide) v L.length (L.map (Value.int .u32)) hs (World.ownsRow.alloc hown _) ⟨w0.heap.size, 0, none⟩ 1 1 [.int .u32 y] hx rfl ?_ ?_ ?_ ?_ ?_ ?_
  · intro j u hj
    have hn : (w0.alloc (.cells #[.int .u32 y] 63)).heap[w0.heap.size]? = some (.cells #[.int .u32 y] 63 (0, 0)) := heap_alloc_new w0 _
    rcases j with _ | j
    · rw [Addr.add_lit, Nat.zero_add, cell_of_row _ w0.heap.size 0 _ _ _ hn]; exact hj
    · simp at hj
  · intro u hu
    rw [List.mem_singleton] at hu
    subst hu
    rfl
  · unfold maxLen; omega
  · omega
  · simp; omega
  · intro v' w' hown' hg _
    refine h v' w' ?_ ?_
    · unfold Own
      rw [List.length_append, List.map_append]
      exact hown'
    · refine ((Below.refl B w0).alloc hB _).grown hg (by simp; omega) ?_
      intro k hk
      exact (hown.lt k hk).1
end Go.Proofs.YtecaaklbhhjcjaaGreatDoor

namespace Go.Proofs.YtecaaklbhhjcjaaGreatDoor
open Go.RowKit

set_option maxRecDepth 100000 in
set_option maxHeartbeats 2000000 in
theorem refTrim_any (ao : Option Addr) (n cap : Nat) (zs : List Int) (w : World) (h : Sl w ao n cap zs) :
    Calls Tryz.prog 143 #[.slice ao n cap] w fun e w' => ∃ ro k rc, e = .returned (.slice ro k rc) ∧ Sl w' ro k rc (limbs (num zs).toNat) ∧ k ≤ n ∧ Below w.heap.size w w' := by
  have hln := h.len
  have HL := Lib.hid hln; clear hln
  have hbig := h.big
  have fin : ∀ t, tlen zs n = t → t ≤ n ∧ zs.take t = limbs (num zs).toNat := by
    rintro t rfl
    have e := take_tlen h.wf n (by rw [HL.out]; exact Nat.le_refl _)
    rw [List.take_of_length_le (i := n) (by rw [HL.out]; exact Nat.le_refl _)] at e
    exact ⟨tlen_le _ _, e⟩
  have FIN0 := Lib.hid fin; clear fin
  go_enter Tryz.func143, Tryz.ntmps143
  go_wp2
  go_loop [3] (fun i => ∃ k : Nat, k ≤ n ∧ i = .int .i64 k ∧ tlen zs n = tlen zs k) (fun i => (intOf i).toNat)
  case atStart => exact ⟨n, Nat.le_refl _, rfl, rfl⟩
  case round =>
    obtain ⟨k, hk, rfl, ht⟩ := hrel
    have HT := Lib.hid ht; clear ht
    by_cases h0 : 0 < k
    · obtain ⟨m, rfl⟩ : ∃ m, k = m + 1 := ⟨k - 1, by omega⟩
      obtain ⟨b, off, e0, hc⟩ := h.cells (by rw [HL.out]; omega)
      have hcell := hc m (by rw [HL.out]; omega)
      clear hc
      subst e0
      go_wp2
      · have h1 : (zs[m]?.getD 0 == 0) = true := by assumption
        go_round
        case rel => exact ⟨m, by omega, by go_num, by rw [HT.out, tlen, if_pos (by simpa [List.getD] using h1)]⟩
        case measure => simp [intOf]
      · have h1 : (zs[m]?.getD 0 == 0) = false := by assumption
        have hfin := FIN0.out (m + 1) (by rw [HT.out, tlen, if_neg (by simpa [List.getD] using h1)])
        clear h1 hcell
        have FIN := Lib.hid hfin
        have hj' := hfin.1
        clear hfin
        have hlen := HL.out
        have hB0 := Below.refl w.heap.size w
        generalize hBe : w.heap.size = B at *
        have HB := Lib.hid hBe; clear hBe
        go_wp2
        go_loopw [4, 5] (fun v i wr => ∃ j : Nat, j ≤ (m + 1) ∧ i = .int .i64 j ∧ Own wr B v (zs.take j) ∧ Below B w wr) (fun _ i _ => (m + 1) - (intOf i).toNat)
        case atStart => exact ⟨0, Nat.zero_le _, rfl, Own.nil _ _, hB0⟩
        case round =>
          obtain ⟨j, hj, rfl, hown, hB⟩ := hrel
          by_cases hlt : j < (m + 1)
          · obtain ⟨b2, off2, e2, hc⟩ := (h.below (by rw [HB.out]; exact hB)).cells (by omega)
            cases e2
            have hcell := hc j (by omega)
            clear hc
            have hsz : B ≤ wr.heap.size := by have := hB.size; have := HB.out; omega
            have htl : (zs.take j).length ≤ 1099511627776 := by rw [List.length_take]; omega
            have HSZ := Lib.hid hsz; clear hsz
            have HTL := Lib.hid htl; clear htl
            go_wp2_with (at_builtin; refine wpList_append_u32 _ rfl (.tmp 25) (.tmp 30) rfl B _ (zs.take j) _ rfl rfl hown HSZ.out HTL.out ?_)
            intro v' w1 hown' hB1
            go_wp2
            go_roundw
            case rel =>
              refine ⟨j + 1, by omega, by go_num, ?_, hB.trans hB1⟩
              rw [take_succ_getD _ _ (by omega)]
              exact hown'
            case measure => simp [intOf] <;> omega
          · obtain rfl : j = (m + 1) := by omega
            have e1 : (zs.take (m + 1)).length = m + 1 := by rw [List.length_take]; omega
            obtain ⟨ro, rc, rfl, hsl⟩ := hown.sl (h.wf.take _) (by omega)
            rw [e1] at hsl
            rw [FIN.out.2] at hsl
            go_wp2
            go_ret
            rw [e1]
            exact ⟨ro, m + 1, rc, rfl, hsl, hj', by rw [HB.out]; exact hB⟩
    · obtain rfl : k = 0 := by omega
      have hfin := FIN0.out 0 (by rw [HT.out]; rfl)
      have FIN := Lib.hid hfin
      have hj' := hfin.1
      clear hfin
      have hlen := HL.out
      have hB0 := Below.refl w.heap.size w
      generalize hBe : w.heap.size = B at *
      have HB := Lib.hid hBe; clear hBe
      go_wp2
      go_loopw [4, 5] (fun v i wr => ∃ j : Nat, j ≤ 0 ∧ i = .int .i64 j ∧ Own wr B v (zs.take j) ∧ Below B w wr) (fun _ i _ => 0 - (intOf i).toNat)
      case atStart => exact ⟨0, Nat.zero_le _, rfl, Own.nil _ _, hB0⟩
      case round =>
        obtain ⟨j, hj, rfl, hown, hB⟩ := hrel
        by_cases hlt : j < 0
        · omega
        · obtain rfl : j = 0 := by omega
          have e1 : (zs.take 0).length = 0 := by rw [List.length_take]; omega
          obtain ⟨ro, rc, rfl, hsl⟩ := hown.sl (h.wf.take _) (by omega)
          rw [e1] at hsl
          rw [FIN.out.2] at hsl
          go_wp2
          go_ret
          exact ⟨ro, 0, rc, rfl, hsl, hj', by rw [HB.out]; exact hB⟩
end Go.Proofs.YtecaaklbhhjcjaaGreatDoor
