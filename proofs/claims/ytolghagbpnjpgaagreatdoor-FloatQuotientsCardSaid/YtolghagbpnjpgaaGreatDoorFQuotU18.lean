import Derived.Test.YtolghagbpnjpgaaGreatDoorFQuotU17
import Derived.Test.YtolghagbpnjpgaaGreatDoorFQuotU0
import Derived.Test.YtolghagbpnjpgaaGreatDoorFQuotU2
import Derived.Test.YtolghagbpnjpgaaGreatDoorFQuotU5
import Derived.Deep.RegionHeld3
import Derived.Laws.AppendOwn
import Derived.OwnWalk
namespace Go.Proofs.YtolghagbpnjpgaaGreatDoor
open Go.RowKit

def faddF (a b : Nat) (mode : Int) : Nat := fmaF a 4607182418800017408 b mode
def fmulF (a b : Nat) (mode : Int) : Nat := fmaF a b (sgz (fneg a != fneg b)) mode

set_option maxRecDepth 100000 in
theorem fadd_any (a b : Nat) (mode : Int) (ha : a < 18446744073709551616) (hb : b < 18446744073709551616) (w : World) :
    Calls Tryz.prog 7 #[.int .u64 (a : Int), .int .u64 (b : Int), .int .i64 mode] w fun r w' => r = .returned (.int .u64 ((faddF a b mode : Nat) : Int)) ∧ Ext w w' := by
  unfold faddF
  have C := ffma_any a 4607182418800017408 b mode ha (by omega) hb
  generalize fmaF a 4607182418800017408 b mode = R at *
  rw [show ((4607182418800017408 : Nat) : Int) = 4607182418800017408 from rfl] at C
  have C := Lib.hid C
  go_enter Tryz.func7, Tryz.ntmps7
  go_wp2_with fail
  refine (C.out _).mono ?_
  rintro r w1 ⟨rfl, hE⟩
  go_wp2
  go_ret
  exact ⟨rfl, hE⟩

set_option maxRecDepth 100000 in
theorem fmul_any (a b : Nat) (mode : Int) (ha : a < 18446744073709551616) (hb : b < 18446744073709551616) (w : World) :
    Calls Tryz.prog 11 #[.int .u64 (a : Int), .int .u64 (b : Int), .int .i64 mode] w fun r w' => r = .returned (.int .u64 ((fmulF a b mode : Nat) : Int)) ∧ Ext w w' := by
  unfold fmulF
  have hx : a ^^^ b < 18446744073709551616 := Nat.xor_lt_two_pow (n := 64) (by omega) (by omega)
  have h1 := bits_xor_u64_nat a b ha hb
  have CS := signOf_any (a ^^^ b) hx
  rw [fneg_xor ha hb] at CS
  have C := ffma_any a b (sgz (fneg a != fneg b)) mode ha hb (by have := sgz_le (fneg a != fneg b); omega)
  generalize a ^^^ b = x at *
  generalize fmaF a b (sgz (fneg a != fneg b)) mode = R at *
  generalize sgz (fneg a != fneg b) = z at *
  have C := Lib.hid C
  have CS := Lib.hid CS
  go_enter Tryz.func11, Tryz.ntmps11
  go_wp2_with fail
  refine (CS.out _).mono ?_
  rintro r w1 ⟨rfl, rfl⟩
  go_wp2_with fail
  refine (C.out _).mono ?_
  rintro r w1 ⟨rfl, hE⟩
  go_wp2
  go_ret
  exact ⟨rfl, hE⟩

set_option maxRecDepth 100000 in
set_option maxHeartbeats 1000000 in
theorem div64_zero (lo y : Nat) (hl : lo < 18446744073709551616) (hy : y < 18446744073709551616) (hy0 : y ≠ 0) (w : World) :
    Calls Tryz.prog 135 #[.int .u64 0, .int .u64 (lo : Int), .int .u64 (y : Int)] w fun r w' => r = .returned (.tuple #[.int .u64 ((lo / y : Nat) : Int), .int .u64 ((lo % y : Nat) : Int)]) ∧ Ext w w' := by
  have h0 : ((y : Int) == 0) = false := by rw [beq_eq_false_iff_ne]; omega
  have h1 : ¬ (y : Int) ≤ 0 := by omega
  have h2 : (0 : Int) < (y : Int) := by omega
  have q1 : (lo : Int) / (y : Int) = ((lo / y : Nat) : Int) := (Int.natCast_ediv lo y).symm
  have q2 : (lo : Int) % (y : Int) = ((lo % y : Nat) : Int) := (Int.natCast_emod lo y).symm
  have q3 : (lo : Int).tdiv (y : Int) = ((lo / y : Nat) : Int) := by rw [Int.tdiv_eq_ediv_of_nonneg (by omega), q1]
  have q4 : (lo : Int).tmod (y : Int) = ((lo % y : Nat) : Int) := by rw [Int.tmod_eq_emod_of_nonneg (by omega), q2]
  have hb : lo / y < 18446744073709551616 := Nat.lt_of_le_of_lt (Nat.div_le_self _ _) hl
  have q5 : IntKind.u64.wrap ((lo / y : Nat) : Int) = ((lo / y : Nat) : Int) := wrap_nat hb
  generalize lo / y = q at *
  generalize lo % y = r at *
  clear hl hy hy0
  go_enter Tryz.func135, Tryz.ntmps135
  go_upto_region 6 with fail
  go_quiet (fail)
  go_wp2
  go_ret2
  exact ⟨rfl, below_drewN (Below.refl _ _) _⟩

set_option maxRecDepth 100000 in
theorem fnormal_one (e : Int) (he0 : -100000 ≤ e) (he1 : e ≤ 100000) (w : World) :
    Calls Tryz.prog 134 #[.agg #[.int .u64 0, .int .u64 4503599627370496, .int .i64 e, .bool false]] w fun r w' => r = .returned (.agg #[.int .u64 9223372036854775808, .int .u64 0, .int .i64 (e - 75), .bool false]) ∧ Ext w w' := by
  have := fnormal_lo 4503599627370496 11 e false (by decide) (by decide) (by omega) (by omega) (by omega) w
  rw [show e - 64 - ((11 : Nat) : Int) = e - 75 by omega] at this
  exact this

set_option maxRecDepth 100000 in
set_option maxHeartbeats 4000000 in
theorem fquot_one (ex ey : Int) (ex0 : -1000 ≤ ex) (ex1 : ex ≤ 1000) (ey0 : -1000 ≤ ey) (ey1 : ey ≤ 1000) (w : World) :
    Calls Tryz.prog 72 #[.agg #[.int .u64 0, .int .u64 4503599627370496, .int .i64 ex, .bool false], .agg #[.int .u64 0, .int .u64 4503599627370496, .int .i64 ey, .bool false]] w fun r w' => r = .returned (.agg #[.int .u64 1, .int .u64 0, .int .i64 (ex - 75 - (ey - 75) - 64), .bool false]) ∧ Ext w w' := by
  have CX := Lib.hid (fnormal_one ex (by omega) (by omega))
  have CY := Lib.hid (fnormal_one ey (by omega) (by omega))
  have D1 := Lib.hid (fun w => div64_zero 9223372036854775808 9223372036854775808 (by omega) (by omega) (by omega) w)
  have D2 := Lib.hid (fun w => div64_zero 0 9223372036854775808 (by omega) (by omega) (by omega) w)
  go_enter Tryz.func72, Tryz.ntmps72
  go_upto_region 1 with fail
  obtain ⟨W, hW, hB, hbx, hby, hbr, hz⟩ := boxes_nnn w 0 4503599627370496 ex false 0 4503599627370496 ey false 0 0 0 false
  rw [← hW]
  clear hW
  generalize hBe : w.heap.size = B at *
  have HBe := Lib.hid hBe
  clear hBe
  go_cut [] from 8 (fun wx => NBox wx B 9223372036854775808 0 (ex - 75) false ∧ NBox wx (B + 1) 9223372036854775808 0 (ey - 75) false ∧ NBox wx (B + 1 + 1) 0 0 0 false ∧ Below B w wx)
  case first =>
    have k0 := hbx.c0
    have k1 := hbx.c1
    have k2 := hbx.c2
    have k3 := hbx.c3
    have l0 := hby.c0
    have l1 := hby.c1
    have l2 := hby.c2
    have l3 := hby.c3
    have TAG1 := Lib.hid True.intro
    go_region_with (first
      | (go_at_call 134; clear TAG1; (with_reducible refine (CX.out _).mono ?_); rintro r1 w1 ⟨rfl, hw1⟩; have ex1 : Below W.heap.size W w1 := (Below.refl _ _).drew.trans hw1; have fb := hby.below ex1; have m0 := fb.c0; have m1 := fb.c1; have m2 := fb.c2; have m3 := fb.c3)
      | (go_at_call 134; (with_reducible refine (CY.out _).mono ?_); rintro r2 w2 ⟨rfl, hw2⟩; clear m0 m1 m2 m3; have ex2 : Below W.heap.size W w2 := ex1.trans (Below.mono hw2 ex1.size); have fa := hbx.below ex2; have fb2 := hby.below ex2; have fr2 := hbr.below ex2; have a0 := fa.c0; have a1 := fa.c1; have a2 := fa.c2; have a3 := fa.c3; have b0 := fb2.c0; have b1 := fb2.c1; have b2 := fb2.c2; have b3 := fb2.c3; have g0 := fa.f 0; have g1 := fa.f 1; have g2 := fa.f 2; have g3 := fa.f 3; have n0 := fb2.f 0; have n1 := fb2.f 1; have n2 := fb2.f 2; have n3 := fb2.f 3))
    all_goals
      go_wp2
      go_meet
    all_goals
      clear a0 a1 a2 a3 b0 b1 b2 b3 g0 g1 g2 g3 n0 n1 n2 n3 k0 k1 k2 k3 l0 l1 l2 l3
      obtain ⟨Z, hZ, z1, z2, z3⟩ := two_nums fa fb2 (hB.trans (Below.mono ex2 (by omega))) 9223372036854775808 0 (ex - 75) 9223372036854775808 0 (ey - 75) false false
      rw [hZ]
      refine ⟨z1, z2, ?_, z3⟩
      rw [← hZ]
      exact (fr2.only (only_nset4 _ _ _ _ _ _) (by omega)).only (only_nset4 _ _ _ _ _ _) (by omega)
  case rest =>
    obtain ⟨xb, yb, rb, hb⟩ := hcut
    clear hbx hby hbr hB hz CX CY
    have c0 := xb.c0
    have c1 := xb.c1
    have c2 := xb.c2
    have c3 := xb.c3
    have d0 := yb.c0
    have d1 := yb.c1
    have d2 := yb.c2
    have HBX := Lib.hid (And.intro xb (And.intro yb (And.intro rb hb)))
    clear xb yb rb hb
    go_wp2_with fail
    refine (D1.out _).mono ?_
    rintro r w1 ⟨rfl, hE⟩
    have xb := HBX.out.1.below hE
    have yb := HBX.out.2.1.below hE
    have rb := HBX.out.2.2.1.below hE
    have hb := HBX.out.2.2.2.trans (Below.mono hE (by have := HBX.out.1.lt; omega))
    clear c0 c1 c2 c3 d0 d1 d2 hE
    have c0 := xb.c0
    have c1 := xb.c1
    have c2 := xb.c2
    have c3 := xb.c3
    have d0 := yb.c0
    have d1 := yb.c1
    have d2 := yb.c2
    have v1 : ((9223372036854775808 / 9223372036854775808 : Nat) : Int) = 1 := rfl
    have v2 : ((9223372036854775808 % 9223372036854775808 : Nat) : Int) = 0 := rfl
    have HBX := Lib.hid (And.intro xb (And.intro yb (And.intro rb hb)))
    clear xb yb rb hb
    go_wp2_with fail
    refine (D2.out _).mono ?_
    rintro r w2 ⟨rfl, hE⟩
    have xb := HBX.out.1.below hE
    have yb := HBX.out.2.1.below hE
    have rb := HBX.out.2.2.1.below hE
    have hb := HBX.out.2.2.2.trans (Below.mono hE (by have := HBX.out.1.lt; omega))
    clear c0 c1 c2 c3 d0 d1 d2 hE
    have v3 : ((0 / 9223372036854775808 : Nat) : Int) = 0 := rfl
    have v4 : ((0 % 9223372036854775808 : Nat) : Int) = 0 := rfl
    have c0 := xb.c0
    have c1 := xb.c1
    have c2 := xb.c2
    have c3 := xb.c3
    have d0 := yb.c0
    have d1 := yb.c1
    have d2 := yb.c2
    have q0 := rb.c0
    have q1 := rb.c1
    have q2 := rb.c2
    have q3 := rb.c3
    have p0 := rb.f 0
    have p1 := rb.f 1
    have p2 := rb.f 2
    have p3 := rb.f 3
    obtain ⟨E, hE⟩ : ∃ E, ex - 75 - (ey - 75) - 64 = E := ⟨_, rfl⟩
    have z := rb.stored 1 0 E false
    have z0 := z.c0
    have z1 := z.c1
    have z2 := z.c2
    have z3 := z.c3
    have B1 := Lib.hid (hb.trans ((only_nset4 w2 (B + 1 + 1) (.int .u64 1) (.int .u64 0) (.int .i64 E) (.bool false)).below (B := B) (by omega)))
    have HE := Lib.hid hE
    clear z xb yb rb hb HBX
    go_wp2
    refine bodyPost_ret (v := .agg #[.int .u64 1, .int .u64 0, .int .i64 E, .bool false]) (by simp [results, Tryz.results72, go_sem, z0, z1, z2, z3]) rfl ⟨by rw [HE.out], ?_⟩
    show Below _ _ _
    rw [HBe.out]
    exact B1.out
end Go.Proofs.YtolghagbpnjpgaaGreatDoor

namespace Go.Proofs.YtolghagbpnjpgaaGreatDoor

theorem sgn3_zero {x : Int} (h : sgn3 x 0 = 0) : x = 0 := by unfold sgn3 at h; split at h <;> (try split at h) <;> omega
theorem sgn3_nonneg {x : Int} (h : 0 ≤ x) : 0 ≤ sgn3 x 0 := by unfold sgn3; split <;> (try split) <;> omega
end Go.Proofs.YtolghagbpnjpgaaGreatDoor

namespace Go.Proofs.YtolghagbpnjpgaaGreatDoor
open Go.RowKit

theorem len_zero_iff {a k : Nat} (h : (limbs a).length = k) : k = 0 ↔ a = 0 := by
  subst h
  constructor
  · intro h; exact limbs_inj (by rw [limbs_zero]; exact List.eq_nil_of_length_eq_zero h)
  · rintro rfl; simp [limbs_zero]

set_option maxRecDepth 100000 in
set_option maxHeartbeats 1000000 in
theorem sign_any (nb : Bool) (ao : Option Addr) (n ca : Nat) (x : Int) (w : World) (h : Bg w nb ao n ca x) :
    Calls Tryz.prog 83 #[.agg #[.bool nb, .slice ao n ca]] w fun e w' => e = .returned (.int .i64 (sgn3 x 0)) ∧ Below w.heap.size w w' := by
  obtain ⟨⟨zs, hs, hx⟩, hsm⟩ := h
  have hx' := Lib.hid hx; clear hx
  obtain ⟨k, hk, hs1, ht⟩ := trim_at _ _ _ _ _ hs
  have hn0 := num_nonneg hs.wf
  have h0 := len_zero_iff hs1.len
  have HT := Lib.hid ht; clear ht
  have hsc := Lib.hid (Sl.below hs (((Below.refl w.heap.size w).alloc (Nat.le_refl _) (.cells #[.bool nb, .slice ao n ca] 31))))
  clear hs1
  by_cases hz : k = 0
  · have hx0 : sgn3 x 0 = 0 := by
      have e := h0.1 hz
      have e2 : num zs = 0 := by omega
      rw [hx'.out]; simp [sgd, sgn3, e2]
    have HX := Lib.hid hx0; clear hx0 h0
    subst hz
    go_enter Tryz.func83, Tryz.ntmps83
    go_wp2_with fail
    refine (HT.out _ hsc.out).mono ?_
    rintro e w1 ⟨rfl, rfl⟩
    go_wp2
    go_ret
    exact ⟨by rw [HX.out]; rfl, (Below.refl _ w).alloc (Nat.le_refl _) _⟩
  · have hpos : 0 < num zs := by
      have : (num zs).toNat ≠ 0 := fun e => hz (h0.2 e)
      omega
    have hk0 : ((k : Int) == 0) = false := beq_eq_false_iff_ne.2 (by omega)
    clear h0 hz
    cases nb with
    | true =>
      have hx0 : sgn3 x 0 = -1 := by rw [hx'.out]; simp [sgd, sgn3]; omega
      have HX := Lib.hid hx0; clear hx0 hpos hn0
      go_enter Tryz.func83, Tryz.ntmps83
      go_wp2_with fail
      refine (HT.out _ hsc.out).mono ?_
      rintro e w1 ⟨rfl, rfl⟩
      go_wp2
      go_ret
      exact ⟨by rw [HX.out]; rfl, (Below.refl _ w).alloc (Nat.le_refl _) _⟩
    | false =>
      have hx0 : sgn3 x 0 = 1 := by rw [hx'.out]; simp [sgd, sgn3]; omega
      have HX := Lib.hid hx0; clear hx0 hpos hn0
      go_enter Tryz.func83, Tryz.ntmps83
      go_wp2_with fail
      refine (HT.out _ hsc.out).mono ?_
      rintro e w1 ⟨rfl, rfl⟩
      go_wp2
      go_ret
      exact ⟨by rw [HX.out]; rfl, (Below.refl _ w).alloc (Nat.le_refl _) _⟩
end Go.Proofs.YtolghagbpnjpgaaGreatDoor

namespace Go.Proofs.YtolghagbpnjpgaaGreatDoor
open Go.RowKit

theorem Bg.drew {w : World} {nb : Bool} {ao : Option Addr} {n cap : Nat} {x : Int} (h : Bg w nb ao n cap x) : Bg w.drew nb ao n cap x := h.below (Below.refl _ _).drew

end Go.Proofs.YtolghagbpnjpgaaGreatDoor

namespace Go.Proofs.YtolghagbpnjpgaaGreatDoor
open Go Go.RowKit

/-- the value v holds the limbs L in memory of the call's own, in blocks from B on -/
def Own (w : World) (B : Nat) (v : Value) (L : List Int) : Prop := w.ownsRow B 96 1 v L.length (L.map (Value.int .u32))

theorem Own.nil (w : World) (B : Nat) : Own w B (.slice none 0 0) [] := ⟨rfl, Or.inl ⟨rfl, rfl⟩⟩

theorem Own.sl {w : World} {B : Nat} {v : Value} {L : List Int} (h : Own w B v L) (hw : Wf L) (hn : L.length ≤ 1099511627776) : ∃ ao cap, v = .slice ao L.length cap ∧ Sl w ao L.length cap L := by
  have h' := h
  obtain ⟨h1, h2⟩ := h
  rcases h2 with ⟨hv, h0⟩ | ⟨g, cap, cur, hv, hb, hg, hc, hm, hs, ht⟩
  · have hL : L = [] := List.eq_nil_of_length_eq_zero h0
    subst hL
    exact ⟨none, 0, hv, Sl.nil w⟩
  · refine ⟨some ⟨g, 0, none⟩, cap, hv, rfl, hc, hn, hw, fun h0 => ⟨g, 0, rfl, fun j hj => ?_⟩⟩
    subst hv
    have := h'.cellAt j (by omega)
    rw [Nat.zero_add, this, List.getElem?_map, List.getElem?_eq_getElem hj, ← getD_at hj]
    rfl

theorem Own.mono {w : World} {B C : Nat} {v : Value} {L : List Int} (h : Own w B v L) (hC : C ≤ B) : Own w C v L :=
  ⟨h.1, h.2.imp id fun ⟨g, cap, cur, hv, hb, r⟩ => ⟨g, cap, cur, hv, Nat.le_trans hC hb, r⟩⟩

/-- 'append(out, x)' -/
theorem wpList_append_u32 (w0 : World) {ops : Array Oper} {rest : List Oper} {o : Oper} {a : Act} {Q : Exit → Act → World → Prop} (hgd : o.guard = none) (s x : Operand)
    (ho : o.op = .call { callee := .builtin .append, args := #[s, x], argTypes := #[29, 29] })
    (B : Nat) (v : Value) (L : List Int) (y : Int) (hs : a.eval s = v) (hx : a.eval x = .slice (some ⟨w0.heap.size, 0, none⟩) 1 1) (hown : Own w0 B v L) (hB : B ≤ w0.heap.size) (hL : L.length ≤ 1099511627776)
    (h : ∀ v' w', Own w' B v' (L ++ [y]) → Below B w0 w' → wpList Tryz.prog ops Q rest (a.put o.dst v') w') : wpList Tryz.prog ops Q (o :: rest) a (w0.alloc (.cells #[.int .u32 y] 96)) := by
  obtain ⟨i0, hi, hz0, hz1, hz2⟩ := info_parts Tryz.infoU32
  refine wpList_append_own _ hgd s x 29 ho B 96 i0 (.int .u32 0) 1 4 Tryz.underlying29 hi hz0 hz1 hz2 rfl (by decide) v L.length (L.map (Value.int .u32)) hs (World.ownsRow.alloc hown _) ⟨w0.heap.size, 0, none⟩ 1 1 [.int .u32 y] hx rfl ?_ ?_ ?_ ?_ ?_ ?_
  · intro j u hj
    have hn : (w0.alloc (.cells #[.int .u32 y] 96)).heap[w0.heap.size]? = some (.cells #[.int .u32 y] 96 (0, 0)) := heap_alloc_new w0 _
    rcases j with _ | j
    · rw [Addr.add_lit, Nat.zero_add, cell_of_row _ w0.heap.size 0 _ _ _ hn]; exact hj
    · simp at hj
  · intro u hu
    rw [List.mem_singleton] at hu
    subst hu
    rfl
  · unfold maxLen; omega
  · omega
  · simp; omega
  · intro v' w' hown' hg _
    refine h v' w' ?_ ?_
    · unfold Own
      rw [List.length_append, List.map_append]
      exact hown'
    · refine ((Below.refl B w0).alloc hB _).grown hg (by simp; omega) ?_
      intro k hk
      exact (hown.lt k hk).1
end Go.Proofs.YtolghagbpnjpgaaGreatDoor

namespace Go.Proofs.YtolghagbpnjpgaaGreatDoor
open Go.RowKit

set_option maxRecDepth 100000 in
set_option maxHeartbeats 2000000 in
theorem refTrim_any (ao : Option Addr) (n cap : Nat) (zs : List Int) (w : World) (h : Sl w ao n cap zs) :
    Calls Tryz.prog 179 #[.slice ao n cap] w fun e w' => ∃ ro k rc, e = .returned (.slice ro k rc) ∧ Sl w' ro k rc (limbs (num zs).toNat) ∧ k ≤ n ∧ Below w.heap.size w w' := by
  have hln := h.len
  have HL := Lib.hid hln; clear hln
  have hbig := h.big
  have fin : ∀ t, tlen zs n = t → t ≤ n ∧ zs.take t = limbs (num zs).toNat := by
    rintro t rfl
    have e := take_tlen h.wf n (by rw [HL.out]; exact Nat.le_refl _)
    rw [List.take_of_length_le (i := n) (by rw [HL.out]; exact Nat.le_refl _)] at e
    exact ⟨tlen_le _ _, e⟩
  have FIN0 := Lib.hid fin; clear fin
  go_enter Tryz.func179, Tryz.ntmps179
  go_wp2
  go_loop [3] (fun i => ∃ k : Nat, k ≤ n ∧ i = .int .i64 k ∧ tlen zs n = tlen zs k) (fun i => (intOf i).toNat)
  case atStart => exact ⟨n, Nat.le_refl _, rfl, rfl⟩
  case round =>
    obtain ⟨k, hk, rfl, ht⟩ := hrel
    have HT := Lib.hid ht; clear ht
    by_cases h0 : 0 < k
    · obtain ⟨m, rfl⟩ : ∃ m, k = m + 1 := ⟨k - 1, by omega⟩
      obtain ⟨b, off, e0, hc⟩ := h.cells (by rw [HL.out]; omega)
      have hcell := hc m (by rw [HL.out]; omega)
      clear hc
      subst e0
      go_wp2
      · have h1 : (zs[m]?.getD 0 == 0) = true := by assumption
        go_round
        case rel => exact ⟨m, by omega, by go_num, by rw [HT.out, tlen, if_pos (by simpa [List.getD] using h1)]⟩
        case measure => simp [intOf]
      · have h1 : (zs[m]?.getD 0 == 0) = false := by assumption
        have hfin := FIN0.out (m + 1) (by rw [HT.out, tlen, if_neg (by simpa [List.getD] using h1)])
        clear h1 hcell
        have FIN := Lib.hid hfin
        have hj' := hfin.1
        clear hfin
        have hlen := HL.out
        have hB0 := Below.refl w.heap.size w
        generalize hBe : w.heap.size = B at *
        have HB := Lib.hid hBe; clear hBe
        go_wp2
        go_loopw [4, 5] (fun v i wr => ∃ j : Nat, j ≤ (m + 1) ∧ i = .int .i64 j ∧ Own wr B v (zs.take j) ∧ Below B w wr) (fun _ i _ => (m + 1) - (intOf i).toNat)
        case atStart => exact ⟨0, Nat.zero_le _, rfl, Own.nil _ _, hB0⟩
        case round =>
          obtain ⟨j, hj, rfl, hown, hB⟩ := hrel
          by_cases hlt : j < (m + 1)
          · obtain ⟨b2, off2, e2, hc⟩ := (h.below (by rw [HB.out]; exact hB)).cells (by omega)
            cases e2
            have hcell := hc j (by omega)
            clear hc
            have hsz : B ≤ wr.heap.size := by have := hB.size; have := HB.out; omega
            have htl : (zs.take j).length ≤ 1099511627776 := by rw [List.length_take]; omega
            have HSZ := Lib.hid hsz; clear hsz
            have HTL := Lib.hid htl; clear htl
            go_wp2_with (at_builtin; refine wpList_append_u32 _ rfl (.tmp 25) (.tmp 30) rfl B _ (zs.take j) _ rfl rfl hown HSZ.out HTL.out ?_)
            intro v' w1 hown' hB1
            go_wp2
            go_roundw
            case rel =>
              refine ⟨j + 1, by omega, by go_num, ?_, hB.trans hB1⟩
              rw [take_succ_getD _ _ (by omega)]
              exact hown'
            case measure => simp [intOf] <;> omega
          · obtain rfl : j = (m + 1) := by omega
            have e1 : (zs.take (m + 1)).length = m + 1 := by rw [List.length_take]; omega
            obtain ⟨ro, rc, rfl, hsl⟩ := hown.sl (h.wf.take _) (by omega)
            rw [e1] at hsl
            rw [FIN.out.2] at hsl
            go_wp2
            go_ret
            rw [e1]
            exact ⟨ro, m + 1, rc, rfl, hsl, hj', by rw [HB.out]; exact hB⟩
    · obtain rfl : k = 0 := by omega
      have hfin := FIN0.out 0 (by rw [HT.out]; rfl)
      have FIN := Lib.hid hfin
      have hj' := hfin.1
      clear hfin
      have hlen := HL.out
      have hB0 := Below.refl w.heap.size w
      generalize hBe : w.heap.size = B at *
      have HB := Lib.hid hBe; clear hBe
      go_wp2
      go_loopw [4, 5] (fun v i wr => ∃ j : Nat, j ≤ 0 ∧ i = .int .i64 j ∧ Own wr B v (zs.take j) ∧ Below B w wr) (fun _ i _ => 0 - (intOf i).toNat)
      case atStart => exact ⟨0, Nat.zero_le _, rfl, Own.nil _ _, hB0⟩
      case round =>
        obtain ⟨j, hj, rfl, hown, hB⟩ := hrel
        by_cases hlt : j < 0
        · omega
        · obtain rfl : j = 0 := by omega
          have e1 : (zs.take 0).length = 0 := by rw [List.length_take]; omega
          obtain ⟨ro, rc, rfl, hsl⟩ := hown.sl (h.wf.take _) (by omega)
          rw [e1] at hsl
          rw [FIN.out.2] at hsl
          go_wp2
          go_ret
          exact ⟨ro, 0, rc, rfl, hsl, hj', by rw [HB.out]; exact hB⟩
end Go.Proofs.YtolghagbpnjpgaaGreatDoor
