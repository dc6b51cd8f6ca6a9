import Derived.Test.YtekocoklfnojmaaGreatDoorIMiddleU2
import Derived.Test.YtekocoklfnojmaaGreatDoorIMiddleU27
import Derived.Test.YtekocoklfnojmaaGreatDoorIMiddleU17
import Derived.Test.YtekocoklfnojmaaGreatDoorIMiddleU20
namespace Go.Proofs.YtekocoklfnojmaaGreatDoor
open Go.ChangeShapes Go.WideShapes Go.ChangeAt Go.RowKit Go.Joins Go.Deep

theorem laid_tail {P : Program} {W : World} {x : String × DataW Unit} {rest : List (String × DataW Unit)} (h : laidMet P (x :: rest) W) : laidMet P rest W := by
  obtain ⟨ps, ⟨g', t', cs, fuel, p, q, _, _, _, _, hq, rfl⟩, hn, hc⟩ := h
  exact ⟨q, hq, (List.nodup_append.1 hn).2.1, fun b off hm => hc b off (List.mem_append_right _ hm)⟩

theorem table64_of {x : String × DataW Unit} {rest : List (String × DataW Unit)} {W : World} (h : laidMet Tryz.prog (x :: ("math/bits.deBruijn64tab", Rows.laid_math_bits_deBruijn64tab) :: rest) W) : Table64 W := by
  have h1 : Lib.TabIs Tryz.prog W "math/bits.deBruijn64tab" .u8 (Lib.deBruijn64tab.map fun (n : Nat) => (n : Int)) :=
    Lib.tabIs_of_head (g := 0) (t := 116) (e := 5) (n := 64) (rest := rest) (by kernel_rfl) (by kernel_rfl) (by kernel_rfl) (by kernel_rfl) (by kernel_rfl) (by kernel_rfl) (laid_tail h)
  intro j hj
  have h2 := h1.cell (g := 0) (by kernel_rfl) j (by simpa using hj)
  rw [h2]
  simp [List.getD, hj]
end Go.Proofs.YtekocoklfnojmaaGreatDoor

namespace Go.Proofs.YtekocoklfnojmaaGreatDoor
open Go.RowKit

/-- block g holds the interval with these bounds, in a block of the call's own -/
def IBox (W : World) (g : Nat) (lo hi : Int) : Prop := W.heap[g]? = some (.cells #[.int .u64 lo, .int .u64 hi] 25 (0, 0))
section
variable {W w w' : World} {g : Nat} {lo hi : Int}
theorem IBox.c0 (h : IBox W g lo hi) : W.cell? ⟨g, 0, none⟩ = some (.int .u64 lo) := by rw [cell_of_row W g 0 _ _ _ h]; rfl
theorem IBox.c1 (h : IBox W g lo hi) : W.cell? ⟨g, 1, none⟩ = some (.int .u64 hi) := by rw [cell_of_row W g 1 _ _ _ h]; rfl
theorem IBox.f (h : IBox W g lo hi) (o : Nat) : W.frozen? ⟨g, o, none⟩ = false := by
  unfold IBox at h; simp [World.frozen?, h]
theorem IBox.lt (h : IBox w g lo hi) : g < w.heap.size := lt_of_cell h.c0
theorem IBox.kept {B : Nat} (h : IBox w g lo hi) (hb : Below B w w') (hg : g < B) : IBox w' g lo hi := by
  unfold IBox; rw [hb.block g hg]; exact h
theorem IBox.below (h : IBox w g lo hi) (hb : Below w.heap.size w w') : IBox w' g lo hi := h.kept hb h.lt
theorem IBox.only {k : Nat} (h : IBox w g lo hi) (ho : Only k w w') (hne : g ≠ k) : IBox w' g lo hi := by
  unfold IBox; rw [ho.block g hne]; exact h
theorem IBox.stored (h : IBox w g lo hi) (lo' hi' : Int) : IBox ((w.setCell ⟨g, 0, none⟩ (.int .u64 lo')).setCell ⟨g, 1, none⟩ (.int .u64 hi')) g lo' hi' := by
  unfold IBox at h ⊢
  simp [World.setCell, Array.getElem?_modify, h]
theorem IBox.drew (h : IBox w g lo hi) : IBox w.drew g lo hi := h
end
theorem IBox.new (w : World) (lo hi : Int) : IBox (w.alloc (.cells #[.int .u64 lo, .int .u64 hi] 25)) w.heap.size lo hi := heap_alloc_new w _
theorem ibox_new (w : World) (lo hi : Int) :
    ∃ W, W = w.alloc (.cells #[.int .u64 lo, .int .u64 hi] 25) ∧ Ext w W ∧ IBox W w.heap.size lo hi ∧ w.heap.size + 1 ≤ W.heap.size :=
  ⟨_, rfl, (Below.refl _ w).alloc (Nat.le_refl _) _, IBox.new w lo hi, by simp⟩
theorem ibox_two (w : World) (lo hi lo' hi' : Int) :
    ∃ W, W = (w.alloc (.cells #[.int .u64 lo, .int .u64 hi] 25)).alloc (.cells #[.int .u64 lo', .int .u64 hi'] 25) ∧ Ext w W ∧ IBox W w.heap.size lo hi ∧ IBox W (w.heap.size + 1) lo' hi' ∧ w.heap.size + 2 ≤ W.heap.size := by
  refine ⟨_, rfl, ((Below.refl _ w).alloc (Nat.le_refl _) _).alloc (by simp) _, ?_, ?_, by simp⟩
  · exact (IBox.new w lo hi).below ((Below.refl _ _).alloc (Nat.le_refl _) _)
  · have := IBox.new (w.alloc (.cells #[.int .u64 lo, .int .u64 hi] 25)) lo' hi'
    simpa using this
theorem ibox_three (w : World) (lo hi lo' hi' l2 h2 : Int) :
    ∃ W, W = ((w.alloc (.cells #[.int .u64 lo, .int .u64 hi] 25)).alloc (.cells #[.int .u64 lo', .int .u64 hi'] 25)).alloc (.cells #[.int .u64 l2, .int .u64 h2] 25) ∧ Ext w W ∧ IBox W w.heap.size lo hi ∧ IBox W (w.heap.size + 1) lo' hi' ∧ IBox W (w.heap.size + 1 + 1) l2 h2 ∧ w.heap.size + 3 ≤ W.heap.size := by
  refine ⟨_, rfl, (((Below.refl _ w).alloc (Nat.le_refl _) _).alloc (by simp) _).alloc (by simp; omega) _, ?_, ?_, ?_, by simp⟩
  · exact (IBox.new w lo hi).below (((Below.refl _ _).alloc (Nat.le_refl _) _).alloc (by simp) _)
  · have := (IBox.new (w.alloc (.cells #[.int .u64 lo, .int .u64 hi] 25)) lo' hi').below ((Below.refl _ _).alloc (Nat.le_refl _) (.cells #[.int .u64 l2, .int .u64 h2] 25))
    simpa using this
  · have := IBox.new ((w.alloc (.cells #[.int .u64 lo, .int .u64 hi] 25)).alloc (.cells #[.int .u64 lo', .int .u64 hi'] 25)) l2 h2
    simpa using this
theorem only_iset2 (w : World) (g : Nat) (u v : Value) : Only g w ((w.setCell ⟨g, 0, none⟩ u).setCell ⟨g, 1, none⟩ v) := ((Only.refl g w).setCell _ _).setCell _ _

/-- is a float less than another one? -/
def lessF (a b : Nat) : Bool := !nanB a && !nanB b && decide (frank a < frank b)
theorem less_sgn {a b : Nat} {s : Int} {ok : Bool} (h : FcmpOut a b s ok) : decide (s < 0) = lessF a b := by
  unfold FcmpOut at h
  unfold lessF
  cases ha : nanB a <;> cases hb : nanB b <;> simp [ha, hb] at h ⊢ <;> (first | omega | (rw [h.1]; unfold sgn3; split <;> (try split) <;> omega))
theorem fcmp_some (a b : Nat) : ∃ s ok, FcmpOut a b s ok := by
  cases ha : nanB a
  · cases hb : nanB b
    · exact ⟨_, true, fcmp_num ha hb rfl⟩
    · exact ⟨0, false, fcmp_nan (Or.inr hb)⟩
  · exact ⟨0, false, fcmp_nan (Or.inl ha)⟩

set_option maxRecDepth 100000 in
theorem isLess_any (a b : Nat) (ha : a < 18446744073709551616) (hb : b < 18446744073709551616) (w : World) :
    Calls Tryz.prog 80 #[.int .u64 (a : Int), .int .u64 (b : Int)] w fun e w' => e = .returned (.bool (lessF a b)) ∧ Ext w w' := by
  obtain ⟨s, ok, hc⟩ := fcmp_some a b
  have C := Lib.hid (fcmp_any a b ha hb s ok hc)
  rw [← less_sgn hc]
  clear hc ha hb
  go_enter Tryz.func80, Tryz.ntmps80
  go_wp2_with fail
  refine (C.out _).mono ?_
  rintro r w1 ⟨rfl, hE⟩
  go_wp2
  go_ret
  exact ⟨rfl, hE⟩

/-- is it an interval? -/
def validF (lo hi : Nat) : Bool := !nanB lo && !nanB hi && decide (frank lo ≤ frank hi) && decide (lo ≠ 9218868437227405312) && decide (hi ≠ 18442240474082181120)
theorem valid_sgn {a b : Nat} {s : Int} {ok : Bool} (h : FcmpOut a b s ok) : (ok && decide (s ≤ 0) && decide (a ≠ 9218868437227405312) && decide (b ≠ 18442240474082181120)) = validF a b := by
  unfold FcmpOut at h
  unfold validF
  cases ha : nanB a <;> cases hb : nanB b <;> simp [ha, hb] at h ⊢ <;> (first | (rw [h.2]; simp; done) | (rw [h.1, h.2]; unfold sgn3; congr 2; simp; split <;> (try split) <;> omega))

set_option maxRecDepth 100000 in
set_option maxHeartbeats 2000000 in
theorem ivalid_any (lo hi : Nat) (hl : lo < 18446744073709551616) (hh : hi < 18446744073709551616) (b : Bool) (hb : validF lo hi = b) (w : World) :
    Calls Tryz.prog 8 #[.agg #[.int .u64 (lo : Int), .int .u64 (hi : Int)]] w fun e w' => e = .returned (.bool b) ∧ Ext w w' := by
  obtain ⟨s, ok, hc⟩ := fcmp_some lo hi
  have C := Lib.hid (fcmp_any lo hi hl hh s ok hc)
  have hv := valid_sgn hc
  rw [hb] at hv
  have e1 : decide (lo ≠ 9218868437227405312) = ((lo : Int) != 9218868437227405312) := by
    by_cases h : lo = 9218868437227405312
    · subst h; rfl
    · rw [decide_eq_true h]; simp; omega
  have e2 : decide (hi ≠ 18442240474082181120) = ((hi : Int) != 18442240474082181120) := by
    by_cases h : hi = 18442240474082181120
    · subst h; rfl
    · rw [decide_eq_true h]; simp; omega
  rw [e1, e2] at hv
  obtain ⟨p, hp⟩ : ∃ p, ((lo : Int) != 9218868437227405312) = p := ⟨_, rfl⟩
  obtain ⟨q, hq⟩ : ∃ q, ((hi : Int) != 18442240474082181120) = q := ⟨_, rfl⟩
  rw [hp, hq] at hv
  have HV := Lib.hid hv
  clear hv hc hl hh hb e1 e2
  go_enter Tryz.func8, Tryz.ntmps8
  go_wp2_with fail
  obtain ⟨W, hW, hB, hx, hsz⟩ := ibox_new w lo hi
  rw [← hW]
  clear hW
  have c0 := hx.c0
  have c1 := hx.c1
  have HB := Lib.hid hB
  generalize w.heap.size = B at hx c0 c1 ⊢
  clear hB hsz
  go_wp2_with fail
  refine (C.out _).mono ?_
  rintro r w1 ⟨rfl, hE⟩
  have hx := hx.below hE
  have EX := Lib.hid (HB.out.trans hE)
  clear c0 c1 hE
  have c0 := hx.c0
  have c1 := hx.c1
  cases ok with
  | false =>
    go_wp2
    go_ret
    exact ⟨ret_bool (by rw [← HV.out]; rfl), EX.out⟩
  | true =>
    by_cases hs : s ≤ 0
    · have HS := Lib.hid (show decide (s ≤ 0) = true from decide_eq_true hs)
      cases p with
      | false =>
        go_wp2
        go_ret
        exact ⟨ret_bool (by rw [← HV.out, HS.out]; rfl), EX.out⟩
      | true =>
        cases q with
        | false =>
          go_wp2
          go_ret
          exact ⟨ret_bool (by rw [← HV.out, HS.out]; rfl), EX.out⟩
        | true =>
          go_wp2
          go_ret
          exact ⟨ret_bool (by rw [← HV.out, HS.out]; rfl), EX.out⟩
    · have HS := Lib.hid (show decide (s ≤ 0) = false from decide_eq_false hs)
      go_wp2
      go_ret
      exact ⟨ret_bool (by rw [← HV.out, HS.out]; rfl), EX.out⟩

/-- +0 for both zeros -/
def plainF (f : Nat) : Nat := if f = 9223372036854775808 then 0 else f
set_option maxRecDepth 100000 in
theorem plain_any (f : Nat) (w : World) :
    Calls Tryz.prog 88 #[.int .u64 (f : Int)] w fun e w' => e = .returned (.int .u64 ((plainF f : Nat) : Int)) ∧ w = w' := by
  unfold plainF
  by_cases h : f = 9223372036854775808
  · subst h
    go_enter Tryz.func88, Tryz.ntmps88
    go_wp2
    go_ret
    exact ⟨rfl, rfl⟩
  · rw [if_neg h]
    have h1 : ((f : Int) == 9223372036854775808) = false := by rw [beq_eq_false_iff_ne]; omega
    go_enter Tryz.func88, Tryz.ntmps88
    go_wp2
    go_ret
    exact ⟨rfl, rfl⟩

set_option maxRecDepth 100000 in
theorem whole_any (w : World) :
    Calls Tryz.prog 62 #[] w fun e w' => e = .returned (.agg #[.int .u64 18442240474082181120, .int .u64 9218868437227405312]) ∧ Ext w w' := by
  go_enter Tryz.func62, Tryz.ntmps62
  go_wp2
  exact bodyPost_ret (v := .agg #[.int .u64 18442240474082181120, .int .u64 9218868437227405312]) (by simp [results, Tryz.results62, go_sem]) rfl ⟨rfl, ((Below.refl _ _).alloc (Nat.le_refl _) _)⟩

set_option maxRecDepth 100000 in
set_option maxHeartbeats 1000000 in
theorem between_any (a b : Nat) (w : World) :
    Calls Tryz.prog 63 #[.int .u64 (a : Int), .int .u64 (b : Int)] w fun e w' => e = .returned (.agg #[.int .u64 ((plainF a : Nat) : Int), .int .u64 ((plainF b : Nat) : Int)]) ∧ Ext w w' := by
  have CA := Lib.hid (plain_any a)
  have CB := Lib.hid (plain_any b)
  obtain ⟨x, hx⟩ : ∃ x : Int, ((plainF a : Nat) : Int) = x := ⟨_, rfl⟩
  obtain ⟨y, hy⟩ : ∃ y : Int, ((plainF b : Nat) : Int) = y := ⟨_, rfl⟩
  rw [hx] at CA ⊢
  rw [hy] at CB ⊢
  clear hx hy
  go_enter Tryz.func63, Tryz.ntmps63
  go_wp2_with fail
  obtain ⟨W, hW, hB, hbx, hsz⟩ := ibox_new w 0 0
  rw [← hW]
  clear hW
  generalize hBe : w.heap.size = B at *
  have HBe := Lib.hid hBe
  have hB : Below B w W := by rw [← hBe]; exact hB
  clear hBe
  refine (CA.out _).mono ?_
  rintro r w1 ⟨rfl, rfl⟩
  go_wp2_with fail
  refine (CB.out _).mono ?_
  rintro r w1 ⟨rfl, rfl⟩
  have q0 := hbx.c0
  have q1 := hbx.c1
  have q2 := hbx.f 0
  have q3 := hbx.f 1
  have hst := hbx.stored x y
  have z0 := hst.c0
  have z1 := hst.c1
  have HB := Lib.hid (hB.trans ((only_iset2 _ B (.int .u64 x) (.int .u64 y)).below (Nat.le_refl B)))
  clear hst hB
  go_wp2
  refine bodyPost_ret (v := .agg #[.int .u64 x, .int .u64 y]) (by simp [results, Tryz.results63, go_sem, z0, z1]) rfl ⟨rfl, ?_⟩
  show Below _ _ _
  rw [HBe.out]
  exact HB.out
end Go.Proofs.YtekocoklfnojmaaGreatDoor
